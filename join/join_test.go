package join

import (
	"math"
	"slices"
	"testing"

	"abutment/api"
	"abutment/arena"
	"abutment/device"
	"abutment/file"
	"abutment/space"
	"abutment/tuple"
)

// first is where the space of each work begins: the blocks ahead of it are another one's.
const first = 3

// made answers a work of blocks of size words, so many of which are the space's, whose arena
// has so much room.
func made(t *testing.T, size, blocks, room int) *file.Work {
	t.Helper()
	d, e := device.New(size, first+blocks)
	w := file.New(d, arena.New(room), space.New(first, blocks))
	if e != api.OK || w == nil {
		t.Fatalf("a work of %d blocks of %d words: %v, error %d", blocks, size, w, e)
	}
	return w
}

// laid answers the file of those tuples.
func laid(t *testing.T, w *file.Work, width int, l []api.Tuple) file.File {
	t.Helper()
	f, e := w.Lay(width, l)
	if e != api.OK {
		t.Fatalf("Lay(%d, %d tuples): error %d", width, len(l), e)
	}
	return f
}

// lists wants that f has just these tuples.
func lists(t *testing.T, w *file.Work, f file.File, l []api.Tuple) {
	t.Helper()
	if got, e := w.List(f); e != api.OK || !slices.Equal(got, l) {
		t.Fatalf("List(%v): %v, error %d, not %v", f, got, e, l)
	}
}

// blocksOf is how many blocks n tuples need.
func blocksOf(size, width, n int) int {
	holds := (size - 2) / width
	return (n + holds - 1) / holds
}

// table is the tuples of a file, and its width.
type table struct {
	width int
	list  []api.Tuple
}

// trial is a call of one of the four on the files of some tables, and the one that it has to
// make.
type trial struct {
	name   string
	tables []table
	call   func(w *file.Work, f []file.File) (file.File, api.Errno)
	want   table
}

// on lays the files of a trial.
func (x trial) on(t *testing.T, w *file.Work) []file.File {
	t.Helper()
	var l []file.File
	for _, y := range x.tables {
		l = append(l, laid(t, w, y.width, y.list))
	}
	return l
}

// needs answers how many blocks the files of a trial need, and how many what is made of them
// may take: as many tuples stay as the first one has at most.
func (x trial) needs(size int) (int, int) {
	n := 0
	for _, y := range x.tables {
		n += blocksOf(size, y.width, len(y.list))
	}
	return n, blocksOf(size, x.want.width, len(x.tables[0].list))
}

// room answers how many words the readers and the writer of a trial are granted.
func (x trial) room(size int) int {
	return (len(x.tables) + 1) * size
}

// makes wants that the trial makes the file that it has to, of files that stay, and takes
// nothing else. All is taken away then.
func (x trial) makes(t *testing.T, w *file.Work) {
	t.Helper()
	free, used := w.Space().Extents(), w.Arena().Used()
	l := x.on(t, w)
	taken := w.Space().Free()
	g, e := x.call(w, l)
	blocks := blocksOf(w.Device().Size(), x.want.width, len(x.want.list))
	if e != api.OK || g.Width != x.want.width || g.Count != len(x.want.list) || g.Blocks != blocks {
		t.Fatalf("%s: %v, error %d, not %v", x.name, g, e, x.want)
	}
	if n := taken - w.Space().Free(); n != blocks || w.Arena().Used() != used {
		t.Fatalf("%s: %d blocks are taken, %d words are granted", x.name, n, w.Arena().Used()-used)
	}
	lists(t, w, g, x.want.list)
	for i, f := range append(l, g) {
		if i < len(l) {
			lists(t, w, f, x.tables[i].list)
		}
		if e := w.Free(f); e != api.OK {
			t.Fatalf("%s: Free(%v): error %d", x.name, f, e)
		}
	}
	if got := w.Space().Extents(); !slices.Equal(got, free) {
		t.Fatalf("%s: %v are free, not %v", x.name, got, free)
	}
}

// lookTrial is Look of a's tuples among b's. All of them have to rise as they must.
func lookTrial(a table, key int, b table, value, to int) trial {
	known := map[int64]int64{}
	for _, t := range b.list {
		known[t[0]] = t[value]
	}
	want := table{width: max(a.width, to+1)}
	for _, t := range a.list {
		x, ok := known[t[key]]
		if !ok {
			x = -1
		}
		t[to] = x
		want.list = append(want.list, t)
	}
	call := func(w *file.Work, f []file.File) (file.File, api.Errno) { return Look(w, f[0], key, f[1], value, to) }
	return trial{name: "Look", tables: []table{a, b}, call: call, want: want}
}

// cutTrial is Cut of the tuples of f by o, which names some of its columns.
func cutTrial(f table, o tuple.Order) trial {
	var want table
	for want.width < len(o) && o[want.width] != 0 {
		want.width++
	}
	for _, t := range f.list {
		var c api.Tuple
		for i := range want.width {
			c[i] = t[max(o[i], -o[i])-1]
		}
		want.list = append(want.list, c)
	}
	call := func(w *file.Work, f []file.File) (file.File, api.Errno) { return Cut(w, f[0], o) }
	return trial{name: "Cut", tables: []table{f}, call: call, want: want}
}

// numberTrial is Number of the tuples of f.
func numberTrial(f table, from int64) trial {
	want := table{width: f.width + 1}
	for i, t := range f.list {
		t[f.width] = from + int64(i)
		want.list = append(want.list, t)
	}
	call := func(w *file.Work, f []file.File) (file.File, api.Errno) { return Number(w, f[0], from) }
	return trial{name: "Number", tables: []table{f}, call: call, want: want}
}

// keepTrial is Keep of those tuples of f in whose column stands least to most.
func keepTrial(f table, column int, least, most int64) trial {
	want := table{width: f.width}
	for _, t := range f.list {
		if t[column] >= least && t[column] <= most {
			want.list = append(want.list, t)
		}
	}
	call := func(w *file.Work, f []file.File) (file.File, api.Errno) { return Keep(w, f[0], column, least, most) }
	return trial{name: "Keep", tables: []table{f}, call: call, want: want}
}

// value is what stands in the column c of the tuple i in the tests: numbers of all sizes.
func value(i, c int) int64 {
	x := int64(i*api.Width+c+1) * 0x5851f42d4c957f2d
	switch i % 3 {
	case 0:
		return x >> 56
	case 1:
		return x
	}
	return []int64{math.MaxInt64, math.MinInt64, -1, 0, 1}[(i+c)%5]
}

// anyhow are n tuples of that width.
func anyhow(width, n int) table {
	l := make([]api.Tuple, n)
	for i := range l {
		for c := range width {
			l[i][c] = value(i, c)
		}
	}
	return table{width, l}
}

// risen are n tuples of that width in whose column stand numbers that rise by step with every
// so many tuples.
func risen(width, n, column int, least, step int64, every int) table {
	f := anyhow(width, n)
	for i := range f.list {
		f.list[i][column] = least + int64(i/every)*step
	}
	return f
}

// P13.1: the chapter's example.
func TestExample(t *testing.T) {
	w := made(t, 8, 10, 3*8)
	a, b := laid(t, w, 1, []api.Tuple{{5}, {7}}), laid(t, w, 2, []api.Tuple{{5, 50}, {6, 60}})
	g, e := Look(w, a, 0, b, 1, 1)
	if e != api.OK || g.Width != 2 || g.Count != 2 || g.Blocks != 1 {
		t.Fatalf("Look: %v, error %d", g, e)
	}
	lists(t, w, g, []api.Tuple{{5, 50}, {7, -1}})
}

// P13.2: an example of each of the others, written out.
func TestOthers(t *testing.T) {
	w := made(t, 8, 20, 2*8)
	f := laid(t, w, 3, []api.Tuple{{4, -2, 9}, {1, 7, 8}, {4, 0, 7}, {-3, 7, 6}})
	for _, x := range []struct {
		call  func() (file.File, api.Errno)
		width int
		want  []api.Tuple
	}{
		{func() (file.File, api.Errno) { return Cut(w, f, tuple.Order{3, -1}) }, 2, []api.Tuple{{9, 4}, {8, 1}, {7, 4}, {6, -3}}},
		{func() (file.File, api.Errno) { return Number(w, f, -1) }, 4, []api.Tuple{{4, -2, 9, -1}, {1, 7, 8, 0}, {4, 0, 7, 1}, {-3, 7, 6, 2}}},
		{func() (file.File, api.Errno) { return Keep(w, f, 1, 0, 7) }, 3, []api.Tuple{{1, 7, 8}, {4, 0, 7}, {-3, 7, 6}}},
		{func() (file.File, api.Errno) { return Keep(w, f, 1, -2, 6) }, 3, []api.Tuple{{4, -2, 9}, {4, 0, 7}}},
	} {
		g, e := x.call()
		if e != api.OK || g.Width != x.width || g.Count != len(x.want) {
			t.Fatalf("%v, error %d, not %v", g, e, x.want)
		}
		lists(t, w, g, x.want)
	}
}

// P13.1: all columns of files of all widths, in the least room.
func TestLookColumns(t *testing.T) {
	w := made(t, 8, 99, 3*8)
	for width := 1; width <= api.Width; width++ {
		for key := range width {
			a := risen(width, 13, key, -7, 3, 2)
			for other := 1; other <= api.Width; other++ {
				b := risen(other, 11, 0, -10, 2, 1)
				for column := range other {
					for to := range api.Width {
						lookTrial(a, key, b, column, to).makes(t, w)
					}
				}
			}
		}
	}
}

// counts are how many tuples are tried of files whose blocks hold so many: at the edges of
// blocks.
func counts(holds int) []int {
	return []int{0, 1, 2, holds - 1, holds, holds + 1, 3*holds - 1, 3 * holds, 3*holds + 1}
}

// P13.1: files of all lengths, in blocks of many sizes; the tuples that are asked for lie
// ahead of, among, and behind those that are known.
func TestLookLengths(t *testing.T) {
	for _, size := range []int{api.LeastBlock, 9, 13, 40} {
		for _, n := range counts((size - 2) / 2) {
			for _, m := range counts((size - 2) / 3) {
				w := made(t, size, 99, 3*size)
				for _, least := range []int64{-1000, 0, 1, int64(m), 1000} {
					lookTrial(risen(2, n, 1, least, 1, 3), 1, risen(3, m, 0, 0, 2, 1), 2, 3).makes(t, w)
				}
			}
		}
	}
	w := made(t, api.MostBlock, 99, 3*api.MostBlock)
	lookTrial(risen(1, 999, 0, -5, 1, 2), 0, risen(5, 777, 0, -9, 1, 1), 4, 4).makes(t, w)
}

// P13.1: the least and the greatest keys, and keys at which None stands, or a zero.
func TestLookEdges(t *testing.T) {
	l := []int64{math.MinInt64, math.MinInt64 + 1, -2, -1, 0, 1, math.MaxInt64 - 1, math.MaxInt64}
	w := made(t, 8, 40, 3*8)
	for asked := range 1 << len(l) {
		a, b := table{width: 1}, table{width: 2}
		for i, x := range l {
			if asked>>i&1 == 1 {
				a.list = append(a.list, api.Tuple{x}, api.Tuple{x})
			} else {
				b.list = append(b.list, api.Tuple{x, int64(i%3 - 1)})
			}
		}
		lookTrial(a, 0, b, 1, 2).makes(t, w)
		for _, x := range a.list[:len(a.list)/2] {
			b.list = append(b.list, api.Tuple{x[0], 5})
		}
		slices.SortFunc(b.list, func(x, y api.Tuple) int { return tuple.Compare(x, y, tuple.Order{1}) })
		b.list = slices.CompactFunc(b.list, func(x, y api.Tuple) bool { return x[0] == y[0] })
		lookTrial(a, 0, b, 1, 0).makes(t, w)
	}
}

// P13.1: a file may be looked up in itself.
func TestLookInItself(t *testing.T) {
	w := made(t, 8, 40, 3*8)
	l := []api.Tuple{{-4, 2}, {0, -4}, {2, 9}, {9, 0}}
	f := laid(t, w, 2, l)
	g, e := Look(w, f, 0, f, 1, 4)
	if e != api.OK || g.Width != 5 {
		t.Fatalf("Look: %v, error %d", g, e)
	}
	lists(t, w, g, []api.Tuple{{-4, 2, 0, 0, 2}, {0, -4, 0, 0, -4}, {2, 9, 0, 0, 9}, {9, 0, 0, 0, 0}})
	lists(t, w, f, l)
}

// upTo are all lists of at most n numbers from 0 to below most.
func upTo(n, most int) [][]int64 {
	l := [][]int64{nil}
	for i := 0; i < len(l); i++ {
		for x := range most {
			if len(l[i]) < n {
				l = append(l, append(slices.Clone(l[i]), int64(x)))
			}
		}
	}
	return l
}

// comeTo answers those tuples of b, by their columns 0, that Look comes to, if a rises: up to
// the first one that isn't below a's last key.
func comeTo(a, b []int64) []int64 {
	if len(a) == 0 {
		return nil
	}
	for i, x := range b {
		if x >= a[len(a)-1] {
			return b[:i+1]
		}
	}
	return b
}

// rises tells whether no number stands behind a greater one, nor, strictly, behind its like.
func rises(l []int64, strictly bool) bool {
	for i := 1; i < len(l); i++ {
		if l[i] < l[i-1] || strictly && l[i] == l[i-1] {
			return false
		}
	}
	return true
}

// column is a table whose column 0 has those numbers, the column 1 their places.
func column(l []int64) table {
	f := table{width: 2}
	for i, x := range l {
		f.list = append(f.list, api.Tuple{x, int64(i)})
	}
	return f
}

// P13.1: all short files: those that don't rise as they must are told, but no tuple of b is
// come to that needn't be.
func TestRising(t *testing.T) {
	w := made(t, 8, 9, 3*8)
	for _, a := range upTo(4, 3) {
		for _, b := range upTo(4, 4) {
			x := lookTrial(column(a), 0, table{width: 2}, 1, 2)
			x.tables[1] = column(b)
			known := comeTo(a, b)
			if !rises(a, false) || !rises(known, true) {
				x.fails(t, w, api.ErrFormat)
				continue
			}
			for i, y := range x.want.list {
				x.want.list[i][2] = int64(slices.Index(known, y[0]))
			}
			x.makes(t, w)
		}
	}
}

// P13.1: in long files one tuple that doesn't rise is told wherever it stands; a must rise by
// its key, and by nothing else, b by its column 0.
func TestFalling(t *testing.T) {
	const n = 14
	w := made(t, 8, 60, 3*8)
	for key := range 3 {
		for at := 1; at < n; at++ {
			for _, less := range []int64{1, 2, math.MaxInt64} {
				x := lookTrial(risen(3, n, key, 0, 1, 1), key, risen(2, n, 0, 0, 1, 1), 1, 3)
				x.tables[0].list[at][key] -= less
				if less == 1 { // it is like the one ahead
					x = lookTrial(x.tables[0], key, x.tables[1], 1, 3)
					x.makes(t, w)
				} else {
					x.fails(t, w, api.ErrFormat)
				}
				x = lookTrial(risen(3, n, key, 0, 1, 1), key, risen(2, n, 0, 0, 1, 1), 1, 3)
				x.tables[1].list[at][0] -= less
				x.fails(t, w, api.ErrFormat)
			}
		}
	}
}

// P13.2: by all orders, of files of all widths; such as name none of a file's columns, or
// another one's, are refused.
func TestCut(t *testing.T) {
	for width := 1; width <= api.Width; width++ {
		f := anyhow(width, 7)
		w := made(t, 8, 40, 2*8)
		g := laid(t, w, width, f.list)
		for _, o := range formed() {
			if o == (tuple.Order{}) || slices.Max(o[:]) > width || slices.Min(o[:]) < -width {
				refused(t, w, func() (file.File, api.Errno) { return Cut(w, g, o) })
				continue
			}
			cutTrial(f, o).makes(t, w)
		}
	}
}

// formed are all orders that are formed.
func formed() []tuple.Order {
	var l []tuple.Order
	var add func(o tuple.Order, n int)
	add = func(o tuple.Order, n int) {
		l = append(l, o)
		for k := -api.Width; n < api.Width && k <= api.Width; k++ {
			if k == 0 || slices.Contains(o[:], k) || slices.Contains(o[:], -k) {
				continue
			}
			o[n] = k
			add(o, n+1)
			o[n] = 0
		}
	}
	add(tuple.Order{}, 0)
	return l
}

// P13.2: files of all lengths and widths are cut, numbered from numbers of all sizes on, which
// go round, and tuples are kept by each column.
func TestLengths(t *testing.T) {
	for _, size := range []int{api.LeastBlock, 9, 13, 40, api.MostBlock} {
		w := made(t, size, 99, 2*size)
		for width := 1; width <= api.Width; width++ {
			for _, n := range counts((size - 2) / width) {
				f := anyhow(width, n)
				cutTrial(f, tuple.Order{-width}).makes(t, w)
				for _, from := range []int64{0, 1, -5, math.MaxInt64, math.MaxInt64 - 3, math.MinInt64, 1 << 40} {
					if width < api.Width {
						numberTrial(f, from).makes(t, w)
					}
				}
				for column := range width {
					for _, x := range ranges() {
						keepTrial(f, column, x[0], x[1]).makes(t, w)
					}
				}
			}
		}
	}
}

// ranges are ranges from a least to a most number; in some of them none stands.
func ranges() [][2]int64 {
	return [][2]int64{
		{math.MinInt64, math.MaxInt64}, {0, math.MaxInt64}, {math.MinInt64, -1}, {-1, -1}, {0, 1}, {1, 0},
		{math.MinInt64, math.MinInt64}, {math.MaxInt64, math.MaxInt64}, {math.MaxInt64, math.MinInt64}, {-20, 100},
	}
}

// P13.2: both ends of a range belong to it.
func TestKeepEnds(t *testing.T) {
	w := made(t, 8, 40, 2*8)
	f := risen(2, 9, 1, -4, 1, 1)
	for least := int64(-6); least <= 6; least++ {
		for most := int64(-6); most <= 6; most++ {
			x := keepTrial(f, 1, least, most)
			if n := min(most, 4) - max(least, -4) + 1; int64(len(x.want.list)) != max(n, 0) {
				t.Fatalf("%d to %d: %d tuples", least, most, len(x.want.list))
			}
			x.makes(t, w)
		}
	}
}
