package tuple

import (
	"math"
	"slices"
	"testing"

	"abutment/api"
)

// formed are all orders that are formed: the chapter's words, built up column by column.
func formed() []Order {
	var l []Order
	var add func(o Order, n int, left []int)
	add = func(o Order, n int, left []int) {
		l = append(l, o)
		for i, k := range left {
			rest := slices.Delete(slices.Clone(left), i, i+1)
			for _, sign := range []int{1, -1} {
				next := o
				next[n] = sign * k
				add(next, n+1, rest)
			}
		}
	}
	add(Order{}, 0, []int{1, 2, 3, 4, 5})
	return l
}

// all calls do with each order of numbers from -6 to 6.
func all(do func(o Order)) {
	const base = 2*(api.Width+1) + 1
	for i := range base * base * base * base * base {
		var o Order
		for c := range o {
			o[c] = i%base - api.Width - 1
			i /= base
		}
		do(o)
	}
}

// wrongs are orders that aren't formed, of each kind, at each place.
func wrongs() []Order {
	l := []Order{
		{1, 1}, {-1, -1}, {1, -1}, {-1, 1}, {5, -5}, {5, 5}, {-3, 1, 3},
		{1, 2, 3, 4, 1}, {1, 2, 3, 4, -1}, {1, 2, 3, 4, 4}, {1, 2, 3, 4, -4}, {5, 4, 3, 2, -2}, {1, 2, 2, 3, 4},
		{0, 1}, {0, -1}, {0, 0, 0, 0, 1}, {0, 0, 0, 0, -5}, {1, 0, 2}, {1, 2, 3, 0, 4}, {1, 2, 3, 0, 3}, {1, 0, 0, 0, -2},
		{1, 0, 6}, {0, -6}, {1, 0, 1}, {0, math.MinInt},
	}
	for _, k := range []int{6, -6, 7, -7, 10, 1 << 8, 1<<8 + 1, 1<<16 + 1, 1<<32 + 1, 1 << 62, 1 - 1<<32, math.MaxInt, math.MaxInt - 1, math.MinInt, math.MinInt + 1, math.MinInt + 5} {
		l = append(l, Order{k}, Order{1, k}, Order{-2, 1, k}, Order{1, 2, 3, 4, k}, Order{k, 1, 2, 3, 4}, Order{k, k})
	}
	return l
}

// numbers are columns of all sizes.
func numbers() []int64 {
	return []int64{math.MinInt64, math.MinInt64 + 1, -1 << 40, -1 << 32, -2, -1, 0, 1, 2, 1 << 31, 1 << 32, 1 << 40, math.MaxInt64 - 1, math.MaxInt64}
}

// bits are all tuples of columns 0 and 1.
func bits() []api.Tuple {
	var l []api.Tuple
	for i := range 1 << api.Width {
		var t api.Tuple
		for c := range t {
			t[c] = int64(i >> c & 1)
		}
		l = append(l, t)
	}
	return l
}

// some are tuples of columns of all sizes, many of which are alike in some columns.
func some() []api.Tuple {
	const most, least = math.MaxInt64, math.MinInt64
	return []api.Tuple{
		{}, {0, 0, 0, 0, 1}, {0, 0, 0, 0, -1}, {1, 0, 0, 0, 0}, {-1, 0, 0, 0, 0}, {0, 0, 1, 0, 0}, {0, 0, -1, 0, 0},
		{1, 2, 3, 4, 5}, {5, 4, 3, 2, 1}, {1, 2, 3, 4, 6}, {2, 2, 3, 4, 5}, {1, 3, 2, 4, 5}, {1, 2, 3, 5, 4},
		{least, most, least, most, least}, {most, least, most, least, most}, {most, most, most, most, most}, {least, least, least, least, least},
		{least, 0, 0, 0, 0}, {most, 0, 0, 0, 0}, {0, least, 0, 0, 0}, {0, most, 0, 0, 0}, {0, 0, 0, 0, least}, {0, 0, 0, 0, most},
		{1 << 32, 1, 1 << 32, 1, 1 << 32}, {-1 << 32, -1, -1 << 32, -1, -1 << 32}, {-1, -2, -3, -4, -5}, {-5, -4, -3, -2, -1},
	}
}

// key is what tuples are compared by, if it is compared number by number, all rising: turning
// all of a number's bits turns its order round.
func key(t api.Tuple, o Order) []int64 {
	var l []int64
	for _, k := range o {
		switch {
		case k > 0:
			l = append(l, t[k-1])
		case k < 0:
			l = append(l, ^t[-k-1])
		}
	}
	return l
}

// cut is what Cut has to answer by an order that is formed.
func cut(t api.Tuple, o Order) api.Tuple {
	var r api.Tuple
	n := 0
	for _, k := range o {
		if k != 0 {
			r[n] = t[max(k, -k)-1]
			n++
		}
	}
	return r
}

// compares wants that Compare answers this, and the contrary the other way round.
func compares(t *testing.T, a, b api.Tuple, o Order, want int) {
	t.Helper()
	if got := Compare(a, b, o); got != want {
		t.Fatalf("Compare(%v, %v, %v): %d, not %d", a, b, o, got, want)
	}
	if got := Compare(b, a, o); got != -want {
		t.Fatalf("Compare(%v, %v, %v): %d, not %d", b, a, o, got, -want)
	}
}

// sorted wants that Sorted answers this.
func sorted(t *testing.T, l []api.Tuple, o Order, want bool) {
	t.Helper()
	if got := Sorted(l, o); got != want {
		t.Fatalf("Sorted(%v, %v): %v", l, o, got)
	}
}

// cuts wants that Cut answers this.
func cuts(t *testing.T, x api.Tuple, o Order, want api.Tuple) {
	t.Helper()
	if got := Cut(x, o); got != want {
		t.Fatalf("Cut(%v, %v): %v, not %v", x, o, got, want)
	}
}

// P11.1: the chapter's example.
func TestExample(t *testing.T) {
	o := Order{2, -1}
	compares(t, api.Tuple{3, 1}, api.Tuple{2, 1}, o, -1)
	compares(t, api.Tuple{3, 1}, api.Tuple{9, 0}, o, 1)
	sorted(t, []api.Tuple{{9, 0}, {3, 1}, {2, 1}}, o, true)
	sorted(t, []api.Tuple{{9, 0}, {2, 1}, {3, 1}}, o, false)
	cuts(t, api.Tuple{3, 1}, o, api.Tuple{1, 3})
}

// P11.1: of all orders of numbers from -6 to 6 just those are formed that can be built up.
func TestFormed(t *testing.T) {
	is := map[Order]int{}
	for _, o := range formed() {
		is[o]++
	}
	if len(is) != 1+10+80+480+1920+3840 {
		t.Fatalf("%d orders are formed", len(is))
	}
	all(func(o Order) {
		if got := Formed(o); got != (is[o] == 1) {
			t.Fatalf("Formed(%v): %v", o, got)
		}
	})
}

// P11.1: orders that aren't formed, numbers among them whose contrary is no number.
func TestNotFormed(t *testing.T) {
	for _, o := range wrongs() {
		if Formed(o) {
			t.Errorf("Formed(%v)", o)
		}
	}
}

// P11.1: an order that names no column is formed: all are alike in it.
func TestNoColumn(t *testing.T) {
	var o Order
	if !Formed(o) {
		t.Fatal("Formed")
	}
	for _, a := range some() {
		for _, b := range some() {
			compares(t, a, b, o, 0)
			sorted(t, []api.Tuple{a, b}, o, true)
		}
		cuts(t, a, o, api.Tuple{})
	}
}

// P11.1: by each order that is formed, the first column in which two differ tells.
func TestCompare(t *testing.T) {
	for _, o := range formed() {
		for _, l := range [][]api.Tuple{bits(), some()} {
			for i, a := range l {
				for _, b := range l[:i+1] {
					compares(t, a, b, o, slices.Compare(key(a, o), key(b, o)))
				}
			}
		}
	}
}

// P11.1: columns are held against each other as int64s, of whatever size.
func TestCompareNumbers(t *testing.T) {
	l := numbers()
	for c := range api.Width {
		for i, x := range l {
			for j, y := range l {
				var a, b api.Tuple
				a[c], b[c] = x, y
				want := 0
				if i < j {
					want = -1
				}
				if i > j {
					want = 1
				}
				compares(t, a, b, Order{c + 1}, want)
				compares(t, a, b, Order{-c - 1}, -want)
			}
		}
	}
}

// P11.1: columns that aren't named are nothing to an order.
func TestNotNamed(t *testing.T) {
	for c := range api.Width {
		a, b := api.Tuple{1, 2, 3, 4, 5}, api.Tuple{-9, 9, -9, 9, -9}
		b[c] = a[c]
		for _, o := range []Order{{c + 1}, {-c - 1}} {
			compares(t, a, b, o, 0)
			sorted(t, []api.Tuple{a, b, a}, o, true)
			cuts(t, b, o, api.Tuple{a[c]})
		}
	}
}

// P11.1: by an order that isn't formed all are alike, every list is sorted, and nothing is cut.
func TestByNotFormed(t *testing.T) {
	a, b := api.Tuple{1, 2, 3, 4, 5}, api.Tuple{5, 4, 2, 1, 7}
	wants := func(o Order) {
		compares(t, a, b, o, 0)
		sorted(t, []api.Tuple{a, b, a}, o, true)
		cuts(t, a, o, api.Tuple{})
	}
	for _, o := range wrongs() {
		wants(o)
	}
	all(func(o Order) {
		if !Formed(o) {
			wants(o)
		}
	})
}

// P11.1: a list is sorted just if none is behind its follower: all lists of up to three.
func TestSorted(t *testing.T) {
	tuples := []api.Tuple{{}, {1}, {0, 1}, {1, 1, 9}, {-1, math.MinInt64}, {math.MaxInt64, 0, 1}, {1, 1, -9}}
	orders := []Order{{1}, {-1}, {2}, {1, 2}, {2, 1}, {-1, 2}, {1, -2}, {-2, -1}, {1, 2, 3}, {3, 2, 1}, {-3}, {4, 5}, {5, -4, 3, -2, 1}}
	for _, o := range orders {
		ahead := func(a, b api.Tuple) bool { return slices.Compare(key(a, o), key(b, o)) <= 0 }
		for _, a := range tuples {
			sorted(t, []api.Tuple{a}, o, true)
			for _, b := range tuples {
				sorted(t, []api.Tuple{a, b}, o, ahead(a, b))
				for _, c := range tuples {
					sorted(t, []api.Tuple{a, b, c}, o, ahead(a, b) && ahead(b, c))
				}
			}
		}
	}
}

// P11.1: a long list of which one stands a place too far ahead, wherever that is, isn't sorted.
func TestSortedLong(t *testing.T) {
	var up, down []api.Tuple
	for i := range 40 {
		up = append(up, api.Tuple{7, int64(i) - 20})
		down = append(down, api.Tuple{7, 20 - int64(i)})
	}
	for o, l := range map[Order][]api.Tuple{{2}: up, {1, 2}: up, {-2}: down, {-1, -2}: down, {3, -2}: down} {
		sorted(t, l, o, true)
		for i := 1; i < len(l); i++ {
			x := slices.Clone(l)
			x[i-1], x[i] = x[i], x[i-1]
			sorted(t, x, o, false)
			x[i-1] = x[i] // tuples that are alike are in order
			sorted(t, x, o, true)
		}
	}
}

// P11.1, R5: lists without elements are sorted; of the others nothing is changed, and what
// stands behind them is nothing to it.
func TestSortedEdges(t *testing.T) {
	for _, o := range formed() {
		sorted(t, nil, o, true)
		sorted(t, []api.Tuple{}, o, true)
	}
	whole := []api.Tuple{{3}, {5}, {4}, {1}}
	l := slices.Clone(whole)
	sorted(t, l[:2], Order{1}, true)
	sorted(t, l[1:], Order{-1}, true)
	sorted(t, l[:3], Order{1}, false)
	sorted(t, l[:1], Order{1}, true)
	sorted(t, l[:0], Order{1}, true)
	if !slices.Equal(l, whole) {
		t.Fatalf("%v, not %v", l, whole)
	}
}

// P11.1: the columns that an order names, in its order, whatever the sign, and zeros behind
// them.
func TestCut(t *testing.T) {
	for _, o := range formed() {
		for _, x := range some() {
			cuts(t, x, o, cut(x, o))
		}
	}
	x := api.Tuple{10, -20, 30, math.MinInt64, math.MaxInt64}
	for o, want := range map[Order]api.Tuple{
		{1}:               {10},
		{-1}:              {10},
		{2}:               {-20},
		{-5}:              {math.MaxInt64},
		{4, -2}:           {math.MinInt64, -20},
		{-4, 2}:           {math.MinInt64, -20},
		{1, 2, 3, 4, 5}:   x,
		{-5, 4, -3, 2, 1}: {math.MaxInt64, math.MinInt64, 30, -20, 10},
	} {
		cuts(t, x, o, want)
	}
}

// P11.2: two are alike just if their cuts are the same, by all orders, formed or not.
func TestAlikeIsSameCut(t *testing.T) {
	for _, o := range append(formed(), wrongs()...) {
		for _, l := range [][]api.Tuple{bits(), some()} {
			for i, a := range l {
				for _, b := range l[:i+1] {
					alike, same := Compare(a, b, o) == 0, Cut(a, o) == Cut(b, o)
					if alike != same {
						t.Fatalf("%v, %v by %v: alike %v, same cuts %v", a, b, o, alike, same)
					}
				}
			}
		}
	}
}

// P11.2: an order is a total one: what is sorted by Compare has each tuple behind none that
// follows, however many stand between.
func TestTotal(t *testing.T) {
	for n, o := range formed() {
		if n%7 != 0 {
			continue
		}
		l := append(bits(), some()...)
		slices.SortFunc(l, func(a, b api.Tuple) int { return Compare(a, b, o) })
		sorted(t, l, o, true)
		for i, a := range l {
			for _, b := range l[i:] {
				if Compare(a, b, o) > 0 {
					t.Fatalf("%v ahead of %v by %v", a, b, o)
				}
			}
		}
	}
}
