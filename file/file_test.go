package file

import (
	"encoding/binary"
	"hash/crc32"
	"math"
	"slices"
	"testing"

	"abutment/api"
	"abutment/arena"
	"abutment/device"
	"abutment/space"
)

// first is where the space of each work begins: the blocks ahead of it are another one's.
const first = 3

// made answers a work of blocks of size words, so many of which are the space's, whose arena
// has so much room.
func made(t *testing.T, size, blocks, room int) *Work {
	t.Helper()
	d, e := device.New(size, first+blocks)
	w := New(d, arena.New(room), space.New(first, blocks))
	if e != api.OK || w == nil {
		t.Fatalf("a work of %d blocks of %d words: %v, error %d", blocks, size, w, e)
	}
	return w
}

// state is what can be seen of a work: the free blocks, the arena's measures, and the
// device's acts.
type state struct {
	free                   []space.Extent
	used, peak, left, acts int
}

// stateOf answers a work's state.
func stateOf(w *Work) state {
	a := w.Arena()
	return state{w.Space().Extents(), a.Used(), a.Peak(), a.Left(), w.Device().Acts()}
}

// stays wants that the work is as it was.
func stays(t *testing.T, w *Work, was state) {
	t.Helper()
	is := stateOf(w)
	if !slices.Equal(is.free, was.free) {
		t.Fatalf("the extents %v are free, not %v", is.free, was.free)
	}
	is.free, was.free = nil, nil
	if is.used != was.used || is.peak != was.peak || is.left != was.left || is.acts != was.acts {
		t.Fatalf("%+v, not %+v", is, was)
	}
}

// rests wants that no grant stands, and that so many blocks are free.
func rests(t *testing.T, w *Work, free int) {
	t.Helper()
	if n := w.Arena().Used(); n != 0 {
		t.Fatalf("%d words are granted", n)
	}
	if n := w.Space().Free(); n != free {
		t.Fatalf("%d blocks are free, not %d", n, free)
	}
}

// does wants that so many acts were done since there were that many.
func does(t *testing.T, w *Work, since, acts int) {
	t.Helper()
	if n := w.Device().Acts() - since; n != acts {
		t.Fatalf("%d acts, not %d", n, acts)
	}
}

// column is what stands in the column c of the tuple i in the tests: numbers of all sizes.
func column(i, c int) int64 {
	x := int64(i*api.Width+c+1) * 0x5851f42d4c957f2d
	switch i % 4 {
	case 0:
		return x >> 40
	case 1:
		return x
	case 2:
		return -int64(i)
	}
	return []int64{math.MaxInt64, math.MinInt64, -1, 0, 1}[c]
}

// tuples are n tuples of that width.
func tuples(width, n int) []api.Tuple {
	l := make([]api.Tuple, n)
	for i := range l {
		for c := range width {
			l[i][c] = column(i, c)
		}
	}
	return l
}

// lay answers the file that Lay makes of l.
func lay(t *testing.T, w *Work, width int, l []api.Tuple) File {
	t.Helper()
	f, e := w.Lay(width, l)
	if e != api.OK {
		t.Fatalf("Lay(%d, %d tuples): error %d", width, len(l), e)
	}
	return f
}

// laysNot wants that Lay answers e, and nothing beside it.
func laysNot(t *testing.T, w *Work, width int, l []api.Tuple, e api.Errno) {
	t.Helper()
	if f, got := w.Lay(width, l); f != (File{}) || got != e {
		t.Fatalf("Lay(%d, %d tuples): %v, error %d, not %d", width, len(l), f, got, e)
	}
}

// lists wants that List answers just these tuples.
func lists(t *testing.T, w *Work, f File, l []api.Tuple) {
	t.Helper()
	if got, e := w.List(f); e != api.OK || !slices.Equal(got, l) {
		t.Fatalf("List(%v): %v, error %d, not %v", f, got, e, l)
	}
}

// listsNot wants that List answers e, and nothing beside it.
func listsNot(t *testing.T, w *Work, f File, e api.Errno) {
	t.Helper()
	if l, got := w.List(f); len(l) != 0 || got != e {
		t.Fatalf("List(%v): %v, error %d, not %d", f, l, got, e)
	}
}

// free wants that Free answers e.
func free(t *testing.T, w *Work, f File, e api.Errno) {
	t.Helper()
	if got := w.Free(f); got != e {
		t.Fatalf("Free(%v): error %d, not %d", f, got, e)
	}
}

// block answers a block's words.
func block(t *testing.T, w *Work, i int) []uint64 {
	t.Helper()
	l, e := w.Device().Read(i)
	if e != api.OK {
		t.Fatalf("Read(%d): error %d", i, e)
	}
	return l
}

// setBlock writes a block's words.
func setBlock(t *testing.T, w *Work, i int, l []uint64) {
	t.Helper()
	if e := w.Device().Write(i, l); e != api.OK {
		t.Fatalf("Write(%d): error %d", i, e)
	}
}

// sealed is a sealed block, put together as chapter 8 tells it.
func sealed(size, at int, tag uint64, payload []uint64) []uint64 {
	block := append(slices.Clone(payload), make([]uint64, size-2-len(payload))...)
	block = append(block, tag)
	number := uint64(len(payload)) + 1
	var b []byte
	for _, x := range append(slices.Clone(block), number, uint64(at)) {
		b = binary.LittleEndian.AppendUint64(b, x)
	}
	return append(block, number<<32|uint64(crc32.ChecksumIEEE(b)))
}

// words are the columns of the tuples of l that count, one behind the other.
func words(width int, l []api.Tuple) []uint64 {
	var words []uint64
	for _, t := range l {
		for c := range width {
			words = append(words, uint64(t[c]))
		}
	}
	return words
}

// blocksOf are the blocks of a file of those tuples that begins at first, as the chapter tells
// them.
func blocksOf(size, first, width int, l []api.Tuple) [][]uint64 {
	var blocks [][]uint64
	for len(l) > 0 {
		n := min((size-2)/width, len(l))
		blocks = append(blocks, sealed(size, first+len(blocks), uint64(width), words(width, l[:n])))
		l = l[n:]
	}
	return blocks
}

// stand wants that the file is one of these tuples, and that its blocks are just theirs.
func stand(t *testing.T, w *Work, f File, at, width int, l []api.Tuple) {
	t.Helper()
	blocks := blocksOf(w.Device().Size(), at, width, l)
	if want := (File{at, len(blocks), width, len(l)}); f != want {
		t.Fatalf("the file %v, not %v", f, want)
	}
	for i, want := range blocks {
		if got := block(t, w, f.First+i); !slices.Equal(got, want) {
			t.Fatalf("the block %d of %v: %x, not %x", i, f, got, want)
		}
	}
}

// sizes are those of blocks: the least, the greatest, and some between them, of which no
// width takes all words, and each takes all of some.
func sizes() []int {
	return []int{api.LeastBlock, 9, 10, 11, 12, 13, 14, 17, 62, 64, 100, 255, api.MostBlock}
}

// wrongs are widths that no file has.
func wrongs() []int {
	return []int{math.MinInt, math.MinInt + 1, -1 << 40, -5, -1, 0, api.Width + 1, api.Width + 2, 256, 1 << 40, math.MaxInt}
}

// P10.1: the chapter's example: 3 tuples a block, 3 blocks of 7 tuples.
func TestExample(t *testing.T) {
	w := made(t, 8, 10, 100)
	if n := w.Holds(2); n != 3 {
		t.Fatalf("Holds(2): %d", n)
	}
	f := lay(t, w, 2, tuples(2, 7))
	stand(t, w, f, first, 2, tuples(2, 7))
	if f.Blocks != 3 {
		t.Fatalf("%v", f)
	}
}

// P10.1: the words of a block that was reckoned by another program: two tuples of two
// columns, (1, -1) and (5, 2), in the block 3.
func TestKnownBlock(t *testing.T) {
	w := made(t, 8, 10, 100)
	f := lay(t, w, 2, []api.Tuple{{1, -1}, {5, 2}})
	want := []uint64{1, math.MaxUint64, 5, 2, 0, 0, 2, 5<<32 | 0xed199131}
	if got := block(t, w, f.First); f.First != 3 || !slices.Equal(got, want) {
		t.Fatalf("%v: %x, not %x", f, got, want)
	}
}

// P10.1: a work has what it was told; there is none, if one of the three isn't.
func TestNew(t *testing.T) {
	d, _ := device.New(8, 10)
	a, s := arena.New(10), space.New(0, 10)
	w := New(d, a, s)
	if w == nil || w.Device() != d || w.Arena() != a || w.Space() != s {
		t.Fatalf("New: %v", w)
	}
	for i := range 7 {
		d, a, s := d, a, s
		if i&1 == 0 {
			d = nil
		}
		if i&2 == 0 {
			a = nil
		}
		if i&4 == 0 {
			s = nil
		}
		if New(d, a, s) != nil {
			t.Errorf("New(%v, %v, %v)", d, a, s)
		}
	}
}

// P10.1: a block holds whole tuples, as many as its words but two have room for; 0 of a width
// that no file has.
func TestHolds(t *testing.T) {
	for size := api.LeastBlock; size <= api.MostBlock; size++ {
		w := made(t, size, 0, 0)
		for width := 1; width <= api.Width; width++ {
			n := w.Holds(width)
			if n < 1 || n*width > size-2 || (n+1)*width <= size-2 {
				t.Errorf("blocks of %d words: Holds(%d): %d", size, width, n)
			}
		}
		for _, width := range wrongs() {
			if n := w.Holds(width); n != 0 {
				t.Errorf("blocks of %d words: Holds(%d): %d", size, width, n)
			}
		}
	}
	for width, want := range map[int]int{1: 6, 2: 3, 3: 2, 4: 1, 5: 1} {
		if n := made(t, 8, 0, 0).Holds(width); n != want {
			t.Errorf("Holds(%d): %d, not %d", width, n, want)
		}
	}
}

// P10.3: Free gives just the file's blocks back, once.
func TestFree(t *testing.T) {
	w := made(t, 8, 10, 100)
	a, b, c := lay(t, w, 1, tuples(1, 12)), lay(t, w, 5, tuples(5, 3)), lay(t, w, 2, tuples(2, 1))
	rests(t, w, 4)
	since := w.Device().Acts()
	free(t, w, b, api.OK)
	if got := w.Space().Extents(); !slices.Equal(got, []space.Extent{{First: 5, Blocks: 3}, {First: 9, Blocks: 4}}) {
		t.Fatalf("free: %v", got)
	}
	was := stateOf(w)
	for _, f := range []File{
		b, {First: 4, Blocks: 2}, {First: 7, Blocks: 2}, {First: 3, Blocks: 10}, {First: 2, Blocks: 1}, {First: 2, Blocks: 2},
		{First: 12, Blocks: 2}, {First: 13, Blocks: 1}, {First: 3, Blocks: -1}, {First: 3, Blocks: math.MinInt},
		{First: 3, Blocks: math.MaxInt}, {First: math.MaxInt, Blocks: 1}, {First: math.MinInt, Blocks: 1},
		{First: math.MaxInt, Blocks: math.MaxInt}, {First: -1, Blocks: 5},
	} {
		free(t, w, f, api.ErrArg)
		stays(t, w, was)
	}
	free(t, w, a, api.OK)
	free(t, w, c, api.OK)
	does(t, w, since, 0)
	rests(t, w, 10)
	free(t, w, a, api.ErrArg)
}

// P10.3: a file without blocks is freed, whatever else it has; of one with blocks nothing but
// these is asked for.
func TestFreeWithoutBlocks(t *testing.T) {
	w := made(t, 8, 10, 100)
	was := stateOf(w)
	for _, f := range []File{{}, {Width: 2}, {First: 5}, {First: -1, Width: 9, Count: 100}, {Count: math.MinInt, First: math.MaxInt}} {
		free(t, w, f, api.OK)
		stays(t, w, was)
	}
	f := lay(t, w, 1, tuples(1, 13))
	f.Width, f.Count = -7, 1000
	free(t, w, f, api.OK)
	rests(t, w, 10)
}

// P10.3, P10.4: what is laid stands in its blocks, and is listed, of all widths, in blocks of
// all kinds.
func TestLayAndList(t *testing.T) {
	for _, size := range sizes() {
		for width := 1; width <= api.Width; width++ {
			holds := (size - 2) / width
			for _, n := range []int{0, 1, 2, 3, holds - 1, holds, holds + 1, 2*holds - 1, 2 * holds, 2*holds + 1, 5 * holds, 7*holds + 1} {
				w := made(t, size, 20, size)
				l := tuples(width, n)
				f := lay(t, w, width, l)
				at := first
				if n == 0 {
					at = 0
				}
				blocks := (n + holds - 1) / holds
				does(t, w, 0, blocks)
				rests(t, w, 20-blocks)
				stand(t, w, f, at, width, l)
				since := w.Device().Acts()
				lists(t, w, f, l)
				does(t, w, since, blocks)
				lists(t, w, f, l)
				rests(t, w, 20-blocks)
				if w.Arena().Peak() != size {
					t.Fatalf("the peak %d, of blocks of %d words", w.Arena().Peak(), size)
				}
				free(t, w, f, api.OK)
				rests(t, w, 20)
			}
		}
	}
}

// P10.4: columns of all kinds are listed as they were laid.
func TestColumns(t *testing.T) {
	w := made(t, 16, 100, 16)
	var l []api.Tuple
	for k := range 64 {
		l = append(l, api.Tuple{1 << k, -1 << k, 1<<k - 1, -1<<k - 1, ^(1 << k)})
	}
	l = append(l, api.Tuple{}, api.Tuple{-1, -1, -1, -1, -1}, api.Tuple{math.MaxInt64, math.MinInt64, 0, 0, 0})
	lists(t, w, lay(t, w, 5, l), l)
}

// P10.3: the first error is Lay's: of the writer that isn't there, of a tuple, of a block, of
// the last one; nothing is taken, and no grant stands.
func TestLayErrors(t *testing.T) {
	l := tuples(2, 7)
	w := made(t, 8, 2, 7)
	was := stateOf(w)
	for _, width := range wrongs() {
		laysNot(t, w, width, l, api.ErrArg)
	}
	laysNot(t, w, 2, l, api.ErrRoom)
	laysNot(t, w, 2, nil, api.ErrRoom)
	stays(t, w, was)
	w = made(t, 8, 2, 8)
	was = stateOf(w)
	laysNot(t, w, 2, l, api.ErrFull)
	stays(t, w, was)
	for i := range l {
		w = made(t, 8, 5, 8)
		wrong := slices.Clone(l)
		wrong[i][2] = 1
		laysNot(t, w, 2, wrong, api.ErrArg)
		does(t, w, 0, i/3)
		rests(t, w, 5)
	}
	for n := range 3 {
		w = made(t, 8, 5, 8)
		w.Device().SetFault(n)
		laysNot(t, w, 2, l, api.ErrFault)
		does(t, w, 0, n)
		rests(t, w, 5)
		lists(t, w, lay(t, w, 2, l), l)
		w = made(t, 8, 5, 8)
		w.Device().SetFuse(n)
		laysNot(t, w, 2, l, api.ErrLost)
		laysNot(t, w, 2, l, api.ErrLost)
		does(t, w, 0, n)
		rests(t, w, 5)
	}
	w.Device().Crash(nil)
	if f, e := w.Lay(3, nil); f != (File{Width: 3}) || e != api.OK {
		t.Errorf("Lay of no tuples on a device that is down: %v, error %d", f, e)
	}
}

// P10.3: of those that apply the error that comes first is Lay's: a fault ahead of a tuple
// that is wrong.
func TestLayFirstError(t *testing.T) {
	l := tuples(2, 7)
	l[5][4] = -1
	for n, want := range []api.Errno{api.ErrFault, api.ErrArg} {
		w := made(t, 8, 5, 8)
		w.Device().SetFault(n)
		laysNot(t, w, 2, l, want)
		rests(t, w, 5)
	}
	laysNot(t, made(t, 8, 0, 7), 6, l, api.ErrArg)
	laysNot(t, made(t, 8, 0, 7), 2, l, api.ErrRoom)
	laysNot(t, made(t, 8, 0, 8), 2, l, api.ErrFull)
}

// P10.3: the first error is List's, with no tuples; no grant stands.
func TestListErrors(t *testing.T) {
	w := made(t, 8, 5, 15)
	l := tuples(2, 7)
	f := lay(t, w, 2, l)
	was := stateOf(w)
	for _, width := range wrongs() {
		listsNot(t, w, File{f.First, f.Blocks, width, f.Count}, api.ErrArg)
	}
	r := read(t, w, f)
	listsNot(t, w, File{f.First, f.Blocks, f.Width, 10}, api.ErrArg)
	listsNot(t, w, f, api.ErrRoom)
	r.Close()
	stays(t, w, was)
	for n := range 3 {
		w.Device().SetFault(n)
		listsNot(t, w, f, api.ErrFault)
		rests(t, w, 2)
	}
	lists(t, w, f, l)
	setBlock(t, w, f.First+2, make([]uint64, 8))
	listsNot(t, w, f, api.ErrFault)
	w.Device().SetFuse(2)
	listsNot(t, w, f, api.ErrLost)
	listsNot(t, w, f, api.ErrLost)
	rests(t, w, 2)
	lists(t, w, File{Width: 1}, nil)
}

// R5: what is handed to Lay is left as it is, its spare room too, and isn't kept; what List
// answers is new memory each time.
func TestMemory(t *testing.T) {
	w := made(t, 8, 5, 8)
	l := tuples(2, 10)
	handed := slices.Clone(l)
	f := lay(t, w, 2, handed[:7])
	if !slices.Equal(handed, l) {
		t.Fatal("Lay changed what it was handed")
	}
	clear(handed)
	got, _ := w.List(f)
	clear(got)
	lists(t, w, f, l[:7])
}

// R1: nil ones, and zero ones, which were never made.
func TestNone(t *testing.T) {
	d, _ := device.New(8, 10)
	works := []*Work{nil, {}, New(&device.Device{}, arena.New(100), space.New(0, 10)), New(&device.Device{}, &arena.Arena{}, &space.Space{})}
	for i, w := range works {
		if i < 2 && (w.Device() != nil || w.Arena() != nil || w.Space() != nil) {
			t.Errorf("work %d: %v", i, w)
		}
		for width := -1; width <= api.Width+1; width++ {
			if w.Holds(width) != 0 {
				t.Errorf("work %d: Holds(%d): %d", i, width, w.Holds(width))
			}
			for n := range 3 {
				writesNot(t, w, width, n-1, api.ErrArg)
				readsNot(t, w, File{0, n - 1, width, n - 1}, api.ErrArg)
				listsNot(t, w, File{0, n - 1, width, n - 1}, api.ErrArg)
				laysNot(t, w, width, make([]api.Tuple, n), api.ErrArg)
			}
		}
	}
	for _, f := range []File{{}, {Width: 1}, {0, 1, 1, 1}, {5, -1, 9, 9}} {
		free(t, nil, f, api.ErrArg)
	}
	for _, w := range works[1:] {
		free(t, w, File{First: 20, Blocks: 1}, api.ErrArg)
	}
	writesNot(t, New(d, &arena.Arena{}, &space.Space{}), 1, 1, api.ErrRoom)
	writesNot(t, New(d, arena.New(8), &space.Space{}), 1, 1, api.ErrFull)
	readsNot(t, New(d, &arena.Arena{}, &space.Space{}), File{Width: 1}, api.ErrRoom)
	for _, x := range []*Writer{nil, {}} {
		isClosedWriter(t, x)
	}
	for _, r := range []*Reader{nil, {}} {
		isClosedReader(t, r)
	}
}

// R7: a work, and what is done with it, is nothing to another one.
func TestTwoWorks(t *testing.T) {
	v, w := made(t, 8, 10, 100), made(t, 9, 10, 100)
	was := stateOf(w)
	x := write(t, v, 2, 9)
	put(t, x, tuples(2, 4)...)
	f := lay(t, v, 1, tuples(1, 10))
	r := read(t, v, f)
	next(t, r, tuples(1, 10)[0])
	stays(t, w, was)
	stand(t, w, lay(t, w, 2, tuples(2, 8)), first, 2, tuples(2, 8))
}
