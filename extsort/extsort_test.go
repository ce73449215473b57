package extsort

import (
	"cmp"
	"math"
	"math/bits"
	"slices"
	"testing"

	"abutment/api"
	"abutment/arena"
	"abutment/device"
	"abutment/file"
	"abutment/space"
	"abutment/tuple"
)

// first is where the space of each work begins: the blocks ahead of it are another one's.
const first = 3

// made answers a work of blocks of size words, so many of which are the space's, whose arena
// has so much room.
func made(t *testing.T, size, blocks, room int) *file.Work {
	t.Helper()
	d, e := device.New(size, first+blocks)
	w := file.New(d, arena.New(room), space.New(first, blocks))
	if e != api.OK || w == nil {
		t.Fatalf("a work of %d blocks of %d words: %v, error %d", blocks, size, w, e)
	}
	return w
}

// enough answers a work in which a file of n tuples can be laid, and sorted in so much room:
// one more block is free than the chapter says.
func enough(t *testing.T, size, width, n, room int) *file.Work {
	t.Helper()
	b := blocksOf(size, width, n)
	return made(t, size, 9*b+17, room)
}

// blocksOf is how many blocks n tuples need.
func blocksOf(size, width, n int) int {
	holds := (size - 2) / width
	return (n + holds - 1) / holds
}

// lay answers the file of those tuples.
func lay(t *testing.T, w *file.Work, width int, l []api.Tuple) file.File {
	t.Helper()
	f, e := w.Lay(width, l)
	if e != api.OK {
		t.Fatalf("Lay(%d, %d tuples): error %d", width, len(l), e)
	}
	return f
}

// lists wants that f has just these tuples.
func lists(t *testing.T, w *file.Work, f file.File, l []api.Tuple) {
	t.Helper()
	got, e := w.List(f)
	if e != api.OK || len(got) != len(l) {
		t.Fatalf("List(%v): %d tuples, error %d, not %d", f, len(got), e, len(l))
	}
	for i := range l {
		if got[i] != l[i] {
			t.Fatalf("List(%v): the tuple %d is %v, not %v", f, i, got[i], l[i])
		}
	}
}

// rests wants that no blocks are taken but so many, and that so many words are granted.
func rests(t *testing.T, w *file.Work, blocks, used int) {
	t.Helper()
	if n := w.Device().Blocks() - first - w.Space().Free(); n != blocks {
		t.Fatalf("%d blocks are taken, not %d", n, blocks)
	}
	if n := w.Arena().Used(); n != used {
		t.Fatalf("%d words are granted, not %d", n, used)
	}
}

// compare is how a and b stand to one another by an order that is formed, as the chapter 11
// tells it.
func compare(a, b api.Tuple, o tuple.Order) int {
	for _, k := range o {
		c := 0
		switch {
		case k > 0:
			c = cmp.Compare(a[k-1], b[k-1])
		case k < 0:
			c = cmp.Compare(b[-k-1], a[-k-1])
		}
		if c != 0 {
			return c
		}
	}
	return 0
}

// sorted is what a file of l has to have behind Sort.
func sorted(l []api.Tuple, o tuple.Order, once bool) []api.Tuple {
	l = slices.Clone(l)
	slices.SortStableFunc(l, func(a, b api.Tuple) int { return compare(a, b, o) })
	if once {
		l = slices.CompactFunc(l, func(a, b api.Tuple) bool { return compare(a, b, o) == 0 })
	}
	return l
}

// mostActs is how many acts the chapter lets be done for a file of so many blocks.
func mostActs(blocks int) int {
	if blocks == 0 {
		return 0
	}
	halved := bits.Len(uint(blocks)) - 1
	return (8*blocks + 8) * (halved + 2)
}

// sorts lays l, and wants that Sort makes the file of it that it has to, with no more acts than
// it may do, and gives the old one back. All is taken away then.
func sorts(t *testing.T, w *file.Work, width int, l []api.Tuple, o tuple.Order, once bool) {
	t.Helper()
	taken, used := w.Device().Blocks()-first-w.Space().Free(), w.Arena().Used()
	f := lay(t, w, width, l)
	acts := w.Device().Acts()
	g, e := Sort(w, f, o, once)
	acts = w.Device().Acts() - acts
	want := sorted(l, o, once)
	if e != api.OK || g.Width != width || g.Count != len(want) {
		t.Fatalf("Sort(%v, %v, %v): %v, error %d, not %d tuples", f, o, once, g, e, len(want))
	}
	if acts > mostActs(f.Blocks) {
		t.Fatalf("Sort(%v, %v, %v): %d acts, not at most %d", f, o, once, acts, mostActs(f.Blocks))
	}
	rests(t, w, taken+g.Blocks, used)
	lists(t, w, g, want)
	if e := w.Free(g); e != api.OK {
		t.Fatalf("Free(%v): error %d", g, e)
	}
	rests(t, w, taken, used)
}

// column is what stands in the column c of the tuple i in the tests: there are just a few
// numbers for each column but the last one of a tuple, by which tuples can be told apart.
func column(i, c int) int64 {
	x := uint64(i*api.Width+c+1) * 0x5851f42d4c957f2d
	switch c {
	case 0:
		return int64(x>>40%7) - 3
	case 1:
		return []int64{math.MaxInt64, math.MinInt64, -1, 0, 1}[x>>40%5]
	case 2:
		return int64(x >> 40 % 50)
	}
	return int64(x)
}

// tuples are n tuples of that width.
func tuples(width, n int) []api.Tuple {
	l := make([]api.Tuple, n)
	for i := range l {
		for c := range width {
			l[i][c] = column(i, c)
		}
		if width > 1 {
			l[i][width-1] = int64(i)
		}
	}
	return l
}

// sizes are sizes of blocks: the least and the greatest one, and some between.
func sizes() []int {
	return []int{api.LeastBlock, 9, 13, 40, api.MostBlock}
}

// orders are orders of all lengths, some of which name columns that narrow tuples haven't.
func orders() []tuple.Order {
	return []tuple.Order{{1}, {-1}, {2, -1}, {-3, 1}, {5}, {1, 2, 3, 4, 5}, {-1, -2, -3, -4, -5}, {}}
}

// formed are all orders that are formed.
func formed() []tuple.Order {
	var l []tuple.Order
	var add func(o tuple.Order, n int)
	add = func(o tuple.Order, n int) {
		l = append(l, o)
		for k := -api.Width; n < api.Width && k <= api.Width; k++ {
			if k == 0 || slices.Contains(o[:], k) || slices.Contains(o[:], -k) {
				continue
			}
			o[n] = k
			add(o, n+1)
			o[n] = 0
		}
	}
	add(tuple.Order{}, 0)
	return l
}

// P12.1: the chapter's example.
func TestExample(t *testing.T) {
	w := made(t, 8, 40, 5*8)
	f := lay(t, w, 1, []api.Tuple{{1}, {3}, {2}})
	g, e := Sort(w, f, tuple.Order{-1}, false)
	if e != api.OK || g.Width != 1 || g.Count != 3 || g.Blocks != 1 {
		t.Fatalf("Sort: %v, error %d", g, e)
	}
	lists(t, w, g, []api.Tuple{{3}, {2}, {1}})
}

// P12.1: those that are alike stay as they stood, and once, the first one alone stays.
func TestAlike(t *testing.T) {
	l := []api.Tuple{{2, 0}, {1, 1}, {2, 2}, {1, 3}, {0, 4}, {2, 5}, {1, 6}, {0, 7}}
	for _, x := range []struct {
		order tuple.Order
		once  bool
		want  []api.Tuple
	}{
		{tuple.Order{1}, false, []api.Tuple{{0, 4}, {0, 7}, {1, 1}, {1, 3}, {1, 6}, {2, 0}, {2, 2}, {2, 5}}},
		{tuple.Order{-1}, false, []api.Tuple{{2, 0}, {2, 2}, {2, 5}, {1, 1}, {1, 3}, {1, 6}, {0, 4}, {0, 7}}},
		{tuple.Order{1}, true, []api.Tuple{{0, 4}, {1, 1}, {2, 0}}},
		{tuple.Order{-1}, true, []api.Tuple{{2, 0}, {1, 1}, {0, 4}}},
		{tuple.Order{}, false, l},
		{tuple.Order{}, true, l[:1]},
		{tuple.Order{3, -4}, false, l},
		{tuple.Order{3, -4}, true, l[:1]},
	} {
		// In the least room a run has four of them, so that some which are alike meet when
		// they are merged.
		for _, room := range []int{5 * 8, 16 * 8} {
			w := made(t, 8, 60, room)
			g, e := Sort(w, lay(t, w, 2, l), x.order, x.once)
			if e != api.OK || g.Width != 2 {
				t.Fatalf("Sort(%v, %v): %v, error %d", x.order, x.once, g, e)
			}
			lists(t, w, g, x.want)
		}
	}
}

// counts are how many tuples are tried of files whose blocks hold so many: at the edges of
// blocks, of what is sorted in the least room at one time, and of what is merged there.
func counts(holds int) []int {
	l := []int{0, 1, 2}
	for _, blocks := range []int{1, 2, 3, 4, 5, 6, 7, 8, 9, 12, 13, 27, 28} {
		l = append(l, blocks*holds-1, blocks*holds, blocks*holds+1)
	}
	return l
}

// P12.1, P12.2: files of all kinds, in rooms from the least one on.
func TestSort(t *testing.T) {
	for _, size := range sizes() {
		for width := 1; width <= api.Width; width++ {
			for i, n := range counts((size - 2) / width) {
				l := tuples(width, n)
				for j, room := range []int{5 * size, 6*size - 1, 7 * size, 16*size + 3, 100 * size} {
					w := enough(t, size, width, n, room)
					o := orders()[(i+j)%len(orders())]
					sorts(t, w, width, l, o, (i+j)%2 == 0)
				}
			}
		}
	}
}

// P12.1: by all orders, tuples that are sorted in the arena, and such as are merged; of narrow
// ones an order may name columns that they haven't.
func TestOrders(t *testing.T) {
	const n = 17
	for i, o := range formed() {
		w := enough(t, 13, api.Width, n, 5*13)
		sorts(t, w, api.Width, tuples(api.Width, n), o, i%2 == 0)
		width := i%api.Width + 1
		w = enough(t, 13, width, n, 50*13)
		sorts(t, w, width, tuples(width, n), o, i%3 == 0)
	}
}

// P12.1: tuples that are sorted already, fall, or are all the same.
func TestStanding(t *testing.T) {
	const n = 200
	for _, rise := range []int64{1, -1, 0} {
		l := make([]api.Tuple, n)
		for i := range l {
			l[i] = api.Tuple{rise * int64(i), 7}
		}
		for _, o := range []tuple.Order{{1}, {-1}, {2}} {
			w := enough(t, 8, 2, n, 5*8)
			sorts(t, w, 2, l, o, false)
			sorts(t, w, 2, l, o, true)
		}
	}
}

// P12.2: files of many blocks, in the least room: many steps are needed, and no more acts are
// done than may be.
func TestManyBlocks(t *testing.T) {
	for _, n := range []int{6*3*16 - 1, 6 * 3 * 16, 6*3*16 + 1, 10007, 30011} {
		w := enough(t, 8, 1, n, 5*8)
		sorts(t, w, 1, tuples(1, n), tuple.Order{1}, false)
		w = enough(t, 8, 5, n/6, 5*8)
		sorts(t, w, 5, tuples(5, n/6), tuple.Order{3, -1}, true)
	}
}

// P12.2: what others were granted stands, and isn't room for Sort; so does what they took.
func TestBesideOthers(t *testing.T) {
	const others = 77
	for _, n := range []int{0, 5, 300} {
		w := enough(t, 8, 2, n, others+5*8)
		b, e := w.Arena().Grant(others)
		if e != api.OK {
			t.Fatalf("Grant: error %d", e)
		}
		for i := range b.W {
			b.W[i] = uint64(i)
		}
		taken := lay(t, w, 5, tuples(5, 2))
		sorts(t, w, 2, tuples(2, n), tuple.Order{1}, false)
		sorts(t, w, 2, tuples(2, n), tuple.Order{1}, true)
		lists(t, w, taken, tuples(5, 2))
		for i, x := range b.W {
			if x != uint64(i) {
				t.Fatalf("the word %d of another grant is %d", i, x)
			}
		}
	}
}

// P12.2: an arena may have more room than any that there are; no more of it is used than one
// of those has.
func TestGreatRoom(t *testing.T) {
	const n = api.MostRoom + 1000
	w := enough(t, api.MostBlock, 1, n, math.MaxInt)
	sorts(t, w, 1, tuples(1, n), tuple.Order{1}, false)
	if peak := w.Arena().Peak(); peak > api.MostRoom {
		t.Fatalf("%d words were granted", peak)
	}
}
