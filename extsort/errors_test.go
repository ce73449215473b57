package extsort

import (
	"math"
	"slices"
	"testing"

	"abutment/api"
	"abutment/arena"
	"abutment/device"
	"abutment/file"
	"abutment/seal"
	"abutment/space"
	"abutment/tuple"
)

// state is what can be seen of a work: the free blocks, the arena's measures, and the
// device's acts.
type state struct {
	free             []space.Extent
	used, peak, acts int
}

// stateOf answers a work's state.
func stateOf(w *file.Work) state {
	return state{w.Space().Extents(), w.Arena().Used(), w.Arena().Peak(), w.Device().Acts()}
}

// refuses wants that Sort answers e, and nothing beside it.
func refuses(t *testing.T, w *file.Work, f file.File, o tuple.Order, once bool, e api.Errno) {
	t.Helper()
	if g, got := Sort(w, f, o, once); g != (file.File{}) || got != e {
		t.Fatalf("Sort(%v, %v, %v): %v, error %d, not %d", f, o, once, g, got, e)
	}
}

// refusesAtOnce wants that Sort answers e, and that nothing at all has changed.
func refusesAtOnce(t *testing.T, w *file.Work, f file.File, o tuple.Order, e api.Errno) {
	t.Helper()
	was := stateOf(w)
	for _, once := range []bool{false, true} {
		refuses(t, w, f, o, once, e)
		is := stateOf(w)
		if !slices.Equal(is.free, was.free) || is.used != was.used || is.peak != was.peak || is.acts != was.acts {
			t.Fatalf("Sort(%v, %v): %+v, not %+v", f, o, is, was)
		}
	}
}

// gives wants that Sort answers e, and that nothing is taken or granted but what was.
func gives(t *testing.T, w *file.Work, f file.File, o tuple.Order, once bool, e api.Errno) {
	t.Helper()
	was := stateOf(w)
	refuses(t, w, f, o, once, e)
	is := stateOf(w)
	if !slices.Equal(is.free, was.free) || is.used != was.used {
		t.Fatalf("Sort(%v, %v): %+v, not %+v", f, o, is, was)
	}
}

// unformed are orders that aren't formed, of each kind.
func unformed() []tuple.Order {
	return []tuple.Order{
		{6}, {-6}, {1, 2, 3, 4, 6}, {math.MaxInt}, {math.MinInt}, {1, 1}, {2, -2}, {1, 2, 3, 4, -1},
		{0, 1}, {1, 0, 2}, {0, 0, 0, 0, -5},
	}
}

// impossible are files that can't be, of blocks that hold three tuples of the width 2, two of
// the width 3, and one of the width 5; the blocks that they name are f's, and those behind.
func impossible(f file.File) []file.File {
	var l []file.File
	for _, x := range []file.File{
		{Width: 0}, {Width: -1}, {Width: 6}, {Width: math.MaxInt}, {Width: math.MinInt}, {Blocks: 3, Width: 0, Count: 7},
		{Blocks: 3, Width: 6, Count: 7}, {Blocks: 2, Width: 2, Count: 7}, {Blocks: 4, Width: 2, Count: 7}, {Blocks: 0, Width: 2, Count: 7},
		{Blocks: -3, Width: 2, Count: 7}, {Blocks: 3, Width: 2, Count: 6}, {Blocks: 3, Width: 2, Count: 10}, {Blocks: 3, Width: 2, Count: 0},
		{Blocks: 3, Width: 2, Count: -7}, {Blocks: 1, Width: 2, Count: -1}, {Blocks: -1, Width: 2, Count: -3}, {Blocks: 0, Width: 2, Count: -1},
		{Blocks: 3, Width: 3, Count: 7}, {Blocks: 3, Width: 5, Count: 7}, {Blocks: 3, Width: 2, Count: math.MaxInt},
		{Blocks: math.MaxInt, Width: 2, Count: 7}, {Blocks: math.MinInt, Width: 2, Count: math.MinInt},
	} {
		x.First = f.First
		l = append(l, x)
	}
	return l
}

// P12.1, R1: no work, and works of which something is nil, have no files.
func TestNoWork(t *testing.T) {
	for _, w := range []*file.Work{nil, {}, file.New(nil, arena.New(99), space.New(0, 99))} {
		for _, f := range []file.File{{}, {Width: 2}, {First: 3, Blocks: 1, Width: 1, Count: 1}} {
			refuses(t, w, f, tuple.Order{1}, false, api.ErrArg)
			refuses(t, w, f, tuple.Order{}, true, api.ErrArg)
			refuses(t, w, f, tuple.Order{6}, true, api.ErrArg)
		}
	}
}

// P12.1: orders that aren't formed, and files that can't be. Neither room nor power is asked
// for ahead of that.
func TestWrongArguments(t *testing.T) {
	w := made(t, 8, 50, 5*8)
	f := lay(t, w, 2, tuples(2, 7))
	tries := func() {
		t.Helper()
		for _, o := range unformed() {
			refusesAtOnce(t, w, f, o, api.ErrArg)
			refusesAtOnce(t, w, file.File{Width: 2}, o, api.ErrArg)
		}
		for _, x := range impossible(f) {
			refusesAtOnce(t, w, x, tuple.Order{1}, api.ErrArg)
			refusesAtOnce(t, w, x, tuple.Order{}, api.ErrArg)
		}
	}
	tries()
	b, _ := w.Arena().Grant(5 * 8)
	tries()
	w.Arena().Release(b)
	w.Device().SetFuse(0)
	tries()
	lists(t, file.New(w.Device().Crash([]bool{true, true, true}), w.Arena(), w.Space()), f, tuples(2, 7))
}

// P12.1: with less than five blocks' words left there is no room, whatever the file; with
// just so many there is. The device isn't asked ahead of that.
func TestRoom(t *testing.T) {
	for _, size := range sizes() {
		for width := 1; width <= api.Width; width++ {
			holds := (size - 2) / width
			for _, n := range []int{0, 1, 4 * holds, 19*holds + 1} {
				w := enough(t, size, width, n, 7*size)
				f := lay(t, w, width, tuples(width, n))
				for _, left := range []int{0, 1, size, 4 * size, 5*size - 1} {
					b, _ := w.Arena().Grant(7*size - left)
					refusesAtOnce(t, w, f, tuple.Order{1}, api.ErrRoom)
					w.Device().SetFault(0)
					refusesAtOnce(t, w, f, tuple.Order{1}, api.ErrRoom)
					w.Device().SetFault(-1)
					w.Arena().Release(b)
				}
				w.Arena().Grant(2 * size)
				w.Free(f)
				sorts(t, w, width, tuples(width, n), tuple.Order{1}, false)
			}
		}
	}
}

// files are the files that errors are tried on: such as are sorted at once, merged at once,
// and merged step by step, in the least room of blocks of 8 words.
func files() []struct{ width, n int } {
	return []struct{ width, n int }{{1, 1}, {1, 6}, {2, 10}, {2, 25}, {3, 40}, {5, 13}, {5, 29}, {1, 170}}
}

// actsOf are how many acts Sort does for that file.
func actsOf(t *testing.T, width, n int, once bool) int {
	t.Helper()
	w := enough(t, 8, width, n, 5*8)
	f := lay(t, w, width, tuples(width, n))
	acts := w.Device().Acts()
	if _, e := Sort(w, f, tuple.Order{1}, once); e != api.OK {
		t.Fatalf("Sort(%v): error %d", f, e)
	}
	return w.Device().Acts() - acts
}

// eachAct lays each of the files anew for each act that Sort does for it: its number, from 0
// on, is handed on beside the file and its tuples.
func eachAct(t *testing.T, try func(w *file.Work, f file.File, l []api.Tuple, once bool, n int)) {
	t.Helper()
	for _, x := range files() {
		l := tuples(x.width, x.n)
		for _, once := range []bool{false, true} {
			for n := range actsOf(t, x.width, x.n, once) {
				w := enough(t, 8, x.width, x.n, 5*8)
				f := lay(t, w, x.width, l)
				w.Device().Sync()
				try(w, f, l, once, n)
			}
		}
	}
}

// P12.1, P12.2: a fault at each act. The file is as it was, and can be sorted behind it.
func TestFault(t *testing.T) {
	eachAct(t, func(w *file.Work, f file.File, l []api.Tuple, once bool, n int) {
		w.Device().SetFault(n)
		gives(t, w, f, tuple.Order{1}, once, api.ErrFault)
		lists(t, w, f, l)
		g, e := Sort(w, f, tuple.Order{1}, once)
		if e != api.OK {
			t.Fatalf("Sort(%v): error %d", f, e)
		}
		lists(t, w, g, sorted(l, tuple.Order{1}, once))
		rests(t, w, g.Blocks, 0)
	})
}

// P12.1, P12.2: the power goes at each act. Whatever is kept of what was written, the file is
// as it was.
func TestPower(t *testing.T) {
	eachAct(t, func(w *file.Work, f file.File, l []api.Tuple, once bool, n int) {
		w.Device().SetFuse(n)
		gives(t, w, f, tuple.Order{1}, once, api.ErrLost)
		gives(t, w, f, tuple.Order{1}, once, api.ErrLost)
		for _, keep := range [][]bool{nil, slices.Repeat([]bool{true}, n)} {
			lists(t, file.New(w.Device().Crash(keep), w.Arena(), w.Space()), f, l)
		}
	})
}

// spoils are what may stand in a block of a file of that width instead of what does.
func spoils(t *testing.T, w *file.Work, f file.File, at int) [][]uint64 {
	t.Helper()
	d := w.Device()
	block, e := d.Read(at)
	if e != api.OK {
		t.Fatalf("Read(%d): error %d", at, e)
	}
	payload, tag, e := seal.Get(block, at)
	if e != api.OK {
		t.Fatalf("Get(%d): error %d", at, e)
	}
	l := [][]uint64{make([]uint64, d.Size()), slices.Clone(block), slices.Clone(block)}
	l[1][0]++
	l[2][d.Size()-1]++
	for _, x := range []struct {
		address int
		tag     uint64
		words   int
	}{
		{at + 1, tag, len(payload)}, {at - 1, tag, len(payload)}, {at, tag + 1, len(payload)}, {at, 0, len(payload)},
		{at, tag, len(payload) - 1}, {at, tag, len(payload) - f.Width}, {at, tag, 0},
	} {
		block, e := seal.Put(d.Size(), x.address, x.tag, payload[:x.words])
		if e != api.OK {
			t.Fatalf("Put(%d): error %d", at, e)
		}
		l = append(l, block)
	}
	return l
}

// P12.1: each block of a file in turn isn't sealed so; the others are as they were.
func TestUnsealed(t *testing.T) {
	for _, x := range files() {
		w := enough(t, 8, x.width, x.n, 5*8)
		f := lay(t, w, x.width, tuples(x.width, x.n))
		for at := f.First; at < f.First+f.Blocks; at++ {
			right, _ := w.Device().Read(at)
			for _, block := range spoils(t, w, f, at) {
				w.Device().Write(at, block)
				gives(t, w, f, tuple.Order{1}, false, api.ErrFault)
				gives(t, w, f, tuple.Order{}, true, api.ErrFault)
				if is, _ := w.Device().Read(at); !slices.Equal(is, block) {
					t.Fatalf("the block %d was %v, and is %v", at, block, is)
				}
			}
			w.Device().Write(at, right)
		}
		lists(t, w, f, tuples(x.width, x.n))
	}
}

// P12.1: where blocks are lacking, the file is as it was; with more free ones, one behind the
// other, than the chapter says, none are, also when all others are free only one by one.
func TestFull(t *testing.T) {
	for _, x := range files() {
		l := tuples(x.width, x.n)
		b := blocksOf(8, x.width, x.n)
		for free := range 8*b + 18 {
			w := made(t, 8, b+2*b+free, 5*8)
			f := lay(t, w, x.width, l)
			for i := range b {
				if e := w.Space().Hold(first+b+2*i+1, 1); e != api.OK {
					t.Fatalf("Hold: error %d", e)
				}
			}
			held := w.Device().Blocks() - first - w.Space().Free()
			was := stateOf(w)
			g, e := Sort(w, f, tuple.Order{1}, false)
			switch {
			case e == api.OK:
				lists(t, w, g, sorted(l, tuple.Order{1}, false))
				rests(t, w, held, 0)
			case e != api.ErrFull || g != (file.File{}) || free == 8*b+17 || b == 1:
				t.Fatalf("Sort(%v) with %d blocks free: %v, error %d", f, free, g, e)
			default:
				lists(t, w, f, l)
				rests(t, w, held, 0)
				if !slices.Equal(w.Space().Extents(), was.free) {
					t.Fatalf("%v are free, not %v", w.Space().Extents(), was.free)
				}
			}
		}
	}
}

// P12.1: with no free block there is none for the tuples either; a file of none needs none.
func TestNoBlocks(t *testing.T) {
	w := made(t, 8, 4, 5*8)
	f := lay(t, w, 2, tuples(2, 12))
	refusesAtOnce(t, w, f, tuple.Order{1}, api.ErrFull)
	lists(t, w, f, tuples(2, 12))
	acts := w.Device().Acts()
	for _, once := range []bool{false, true} {
		if g, e := Sort(w, file.File{Width: 3}, tuple.Order{1}, once); g != (file.File{Width: 3}) || e != api.OK {
			t.Fatalf("Sort of no tuples: %v, error %d", g, e)
		}
	}
	rests(t, w, 4, 0)
	if n := w.Device().Acts(); n != acts {
		t.Fatalf("%d acts, not %d", n, acts)
	}
}

// P12.1: a file whose blocks can't be given back, as they are free, or another space's, isn't
// sorted, and stays as it is.
func TestNotTaken(t *testing.T) {
	l := tuples(2, 25)
	for _, given := range []int{1, 3, 9} { // of its nine blocks, the last ones
		w := made(t, 8, 99, 5*8)
		f := lay(t, w, 2, l)
		w.Space().Give(f.First+9-given, given)
		gives(t, w, f, tuple.Order{1}, false, api.ErrArg)
		gives(t, w, f, tuple.Order{1}, true, api.ErrArg)
		lists(t, w, f, l)
		w.Device().SetFault(3)
		gives(t, w, f, tuple.Order{1}, false, api.ErrFault)
	}
	w := made(t, 8, 99, 5*8)
	f := lay(t, w, 2, l)
	other := file.New(w.Device(), w.Arena(), space.New(first+9, 90))
	gives(t, other, f, tuple.Order{1}, false, api.ErrArg)
	lists(t, w, f, l)
}

// P12.1: a file that would be elsewhere than it is: what is read there tells the error.
func TestElsewhere(t *testing.T) {
	w := made(t, 8, 30, 5*8)
	f := lay(t, w, 2, tuples(2, 25))
	for _, x := range []struct {
		first int
		e     api.Errno
	}{
		{0, api.ErrFault}, {f.First - 1, api.ErrFault}, {f.First + 1, api.ErrFault}, {f.First + 9, api.ErrFault},
		{-1, api.ErrArg}, {math.MinInt, api.ErrArg}, {w.Device().Blocks(), api.ErrArg}, {math.MaxInt, api.ErrArg},
	} {
		g := f
		g.First = x.first
		gives(t, w, g, tuple.Order{1}, false, x.e)
		gives(t, w, g, tuple.Order{}, true, x.e)
	}
	lists(t, w, f, tuples(2, 25))
	long := file.File{First: f.First, Blocks: math.MaxInt/3 + 1, Width: 2, Count: math.MaxInt}
	gives(t, w, long, tuple.Order{1}, false, api.ErrFault)
	d, _ := device.New(8, 9)
	gives(t, file.New(d, w.Arena(), w.Space()), f, tuple.Order{1}, false, api.ErrFault)
}
