package rank

import (
	"cmp"
	"math"
	"slices"
	"testing"

	"abutment/api"
	"abutment/file"
	"abutment/trial"
)

// plenty answers a work with more blocks than Ranks of n tuples needs, and the least room.
func plenty(t *testing.T, size, n int) *file.Work {
	t.Helper()
	return trial.Made(t, size, 10*trial.BlocksOf(size, width, n)+20, 8*size)
}

// isLists tells whether tuples are lists, as the chapter has it, but for circles.
func isLists(l []api.Tuple) bool {
	for i, t := range l {
		same := func(column int, x int64) func(o api.Tuple) bool {
			return func(o api.Tuple) bool { return o[column] == x }
		}
		if t[0] < 0 || slices.ContainsFunc(l[:i], same(0, t[0])) {
			return false
		}
		if t[1] == -1 {
			continue
		}
		if !slices.ContainsFunc(l, same(0, t[1])) || slices.ContainsFunc(l[:i], same(1, t[1])) {
			return false
		}
	}
	return true
}

// walked answers each element, rising, and its rank, by going along each list from its first
// one on; false, if the tuples aren't lists.
func walked(l []api.Tuple) ([]api.Tuple, bool) {
	if !isLists(l) {
		return nil, false
	}
	of, isBehind := map[int64]api.Tuple{}, map[int64]int{}
	for _, t := range l {
		of[t[0]] = t
		isBehind[t[1]]++
	}
	var want []api.Tuple
	for _, t := range l {
		if isBehind[t[0]] > 0 {
			continue
		}
		sum := int64(0)
		for at := t[0]; at != -1; at = of[at][1] {
			want = append(want, api.Tuple{at, sum})
			sum += of[at][2]
		}
	}
	slices.SortFunc(want, func(a, b api.Tuple) int { return cmp.Compare(a[0], b[0]) })
	return want, len(want) == len(l) // those on circles are come to from none
}

// caseOf is the call of Ranks of those tuples.
func caseOf(l []api.Tuple) trial.Case {
	c := trial.Case{Given: []trial.Table{{Width: width, List: l}}, Call: func(w *file.Work, l []file.File) ([]file.File, api.Errno) {
		f, e := Ranks(w, l[0])
		return []file.File{f}, e
	}}
	want, ok := walked(l)
	if !ok {
		c.Err = api.ErrFormat
		return c
	}
	c.Want = []trial.Table{{Width: 2, List: want}}
	return c
}

// ranked wants that Ranks of those tuples makes the file that it has to.
func ranked(t *testing.T, w *file.Work, l []api.Tuple) {
	t.Helper()
	c := caseOf(l)
	if c.Err != api.OK {
		t.Fatalf("%v aren't lists", l)
	}
	c.Holds(t, w)
}

// unformed wants that Ranks of those tuples is ErrFormat.
func unformed(t *testing.T, w *file.Work, l []api.Tuple) {
	t.Helper()
	c := caseOf(l)
	if c.Err != api.ErrFormat {
		t.Fatalf("%v are lists", l)
	}
	c.Holds(t, w)
}

// value is the number i of some that lie all over the int64s.
func value(i int) int64 {
	return int64(i+1) * 0x5851f42d4c957f2d
}

// element is the element i of those of the tests: all are unlike, and don't rise.
func element(i int) int64 {
	return value(i) & math.MaxInt64
}

// chain is a list of n elements, from the element at on.
func chain(at, n int) []api.Tuple {
	var l []api.Tuple
	for i := at; i < at+n; i++ {
		l = append(l, api.Tuple{element(i), element(i + 1), value(3*i + 1)})
	}
	if n > 0 {
		l[n-1][1] = -1
	}
	return l
}

// ring is a circle of n elements, from the element at on.
func ring(at, n int) []api.Tuple {
	l := chain(at, n)
	l[n-1][1] = l[0][0]
	return l
}

// mixed are the tuples of l in another order.
func mixed(l []api.Tuple) []api.Tuple {
	step := max(len(l)*5/8, 1)
	for gcd(step, len(l)) > 1 {
		step++
	}
	m := make([]api.Tuple, len(l))
	for i := range m {
		m[i] = l[(i*step+1)%len(l)]
	}
	return m
}

// gcd is the greatest number that divides both.
func gcd(a, b int) int {
	if b == 0 {
		return a
	}
	return gcd(b, a%b)
}

// P14.1: the chapter's example.
func TestExample(t *testing.T) {
	c := caseOf([]api.Tuple{{5, 7, 2}, {7, -1, 9}, {6, 5, 1}})
	c.Want[0].List = []api.Tuple{{5, 1}, {6, 0}, {7, 3}}
	c.Holds(t, c.Plenty(t, 8))
}

// P14.1: two lists, written out, one of which is one element.
func TestTwo(t *testing.T) {
	c := caseOf([]api.Tuple{{0, 4, -3}, {1, -1, 8}, {2, 0, 7}, {3, -1, 100}, {4, 1, 5}})
	c.Want[0].List = []api.Tuple{{0, 7}, {1, 9}, {2, 0}, {3, 0}, {4, 4}}
	c.Holds(t, c.Plenty(t, 9))
}

// P14.1: a file without tuples has no lists.
func TestEmpty(t *testing.T) {
	w := trial.Made(t, 8, 0, 64)
	w.Device().SetFuse(0)
	if g, e := Ranks(w, file.File{Width: width}); e != api.OK || g != (file.File{Width: 2}) {
		t.Fatalf("Ranks: %v, error %d", g, e)
	}
}

// tuplesOf are all tuples of elements from -1 to 2, with elements from -2 to 3 behind them.
func tuplesOf() []api.Tuple {
	var l []api.Tuple
	for x := int64(-1); x <= 2; x++ {
		for next := int64(-2); next <= 3; next++ {
			l = append(l, api.Tuple{x, next, 0})
		}
	}
	return l
}

// P14.1, P14.2: all files of up to three of some tuples, in each order: those that are lists,
// and all that aren't.
func TestAll(t *testing.T) {
	w := plenty(t, 8, 3)
	var try func(l []api.Tuple)
	try = func(l []api.Tuple) {
		caseOf(l).Holds(t, w)
		for _, x := range tuplesOf() {
			if len(l) < 3 {
				x[2] = int64(10 << (4 * len(l)))
				try(append(l, x))
			}
		}
	}
	try(nil)
}

// P14.2: all orders of the tuples of some lists.
func TestOrders(t *testing.T) {
	w := plenty(t, 8, 6)
	for n := range 4 {
		l := append(chain(0, n), chain(10, 6-n)...)
		orders(l, 0, func(l []api.Tuple) { ranked(t, w, l) })
	}
}

// orders calls try with all orders of l that leave the first at ones as they stand.
func orders(l []api.Tuple, at int, try func(l []api.Tuple)) {
	if at == len(l) {
		try(l)
		return
	}
	for i := at; i < len(l); i++ {
		m := slices.Clone(l)
		m[at], m[i] = m[i], m[at]
		orders(m, at+1, try)
	}
}

// P14.1: one list of each length, at the edges of blocks and of powers of two, on blocks of
// many sizes, in the least room and in more.
func TestLengths(t *testing.T) {
	for _, size := range []int{api.LeastBlock, 11, 12, 40, api.MostBlock} {
		for _, room := range []int{8 * size, 8*size + 7, 30 * size} {
			for n := range 70 {
				w := trial.Made(t, size, 10*trial.BlocksOf(size, width, n)+20, room)
				ranked(t, w, mixed(chain(n, n)))
			}
		}
	}
	for _, n := range []int{127, 128, 129, 255, 256, 257, 1000} {
		w := plenty(t, 8, n)
		ranked(t, w, mixed(chain(0, n)))
		ranked(t, w, chain(0, n))
	}
}

// P14.1: lists of all lengths beside one another.
func TestManyLists(t *testing.T) {
	var l []api.Tuple
	for n := range 30 {
		l = append(l, chain(100*n, n)...)
		l = append(l, chain(100*n+50, 1)...)
	}
	for _, size := range []int{8, 20, 64} {
		ranked(t, plenty(t, size, len(l)), mixed(l))
	}
}

// P14.1: elements that rise along the list, that fall, and that go to and fro.
func TestElements(t *testing.T) {
	const n = 41
	w := plenty(t, 8, n)
	for _, at := range []func(i int) int64{
		func(i int) int64 { return int64(i) },
		func(i int) int64 { return int64(n - i) },
		func(i int) int64 { return int64(2*(i%2)*n + i) },
		func(i int) int64 { return int64(2*(i%2)*(n-i) + i) },
		func(i int) int64 { return math.MaxInt64 - int64(i) },
	} {
		var l []api.Tuple
		for i := range n {
			l = append(l, api.Tuple{at(i), at(i + 1), int64(1 + i*i)})
		}
		l[n-1][1] = -1
		ranked(t, w, l)
		ranked(t, w, mixed(l))
	}
}

// P14.1: the least and the greatest element, and the least and the greatest weights, whose
// sums go round.
func TestEdges(t *testing.T) {
	w := plenty(t, 8, 8)
	weights := []int64{math.MinInt64, math.MaxInt64, -1, 0, 1}
	for _, a := range weights {
		for _, b := range weights {
			for _, c := range weights {
				ranked(t, w, []api.Tuple{{math.MaxInt64, 0, a}, {math.MaxInt64 - 1, -1, c}, {0, math.MaxInt64 - 1, b}})
				ranked(t, w, []api.Tuple{{0, 1, a}, {1, 2, b}, {2, math.MaxInt64, c}, {math.MaxInt64, -1, a}, {3, -1, b}})
			}
		}
	}
	c := caseOf([]api.Tuple{{0, 1, math.MaxInt64}, {1, 2, 1}, {2, -1, 5}})
	c.Want[0].List = []api.Tuple{{0, 0}, {1, math.MaxInt64}, {2, math.MinInt64}}
	c.Holds(t, w)
}
