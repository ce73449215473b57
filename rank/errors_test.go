package rank

import (
	"math"
	"slices"
	"testing"

	"abutment/api"
	"abutment/arena"
	"abutment/file"
	"abutment/seal"
	"abutment/space"
)

// state is what can be seen of a work: the free blocks, the arena's measures, and the
// device's acts.
type state struct {
	free             []space.Extent
	used, peak, acts int
}

// stateOf answers a work's state.
func stateOf(w *file.Work) state {
	return state{w.Space().Extents(), w.Arena().Used(), w.Arena().Peak(), w.Device().Acts()}
}

// fails wants that Ranks of f answers e, and that nothing is taken or granted but what was.
func fails(t *testing.T, w *file.Work, f file.File, e api.Errno) {
	t.Helper()
	was := stateOf(w)
	g, got := Ranks(w, f)
	is := stateOf(w)
	if g != (file.File{}) || got != e {
		t.Fatalf("Ranks of %v: %v, error %d, not %d", f, g, got, e)
	}
	if !slices.Equal(is.free, was.free) || is.used != was.used || is.peak > w.Arena().Room() {
		t.Fatalf("Ranks of %v: %+v, not %+v", f, is, was)
	}
}

// refused wants that Ranks of f answers e, and that nothing at all has changed.
func refused(t *testing.T, w *file.Work, f file.File, e api.Errno) {
	t.Helper()
	was := stateOf(w)
	fails(t, w, f, e)
	if is := stateOf(w); is.peak != was.peak || is.acts != was.acts {
		t.Fatalf("Ranks of %v: %+v, not %+v", f, is, was)
	}
}

// P14.1, R1: no work, and works of which something is nil, have no files.
func TestNoWork(t *testing.T) {
	for _, w := range []*file.Work{nil, {}, file.New(nil, arena.New(99), space.New(0, 99))} {
		for _, f := range []file.File{{}, {Width: 3}, {First: 3, Blocks: 1, Width: 3, Count: 1}, {Width: 2}} {
			refused(t, w, f, api.ErrArg)
		}
	}
}

// impossible are files that aren't of three columns, or can't be, of blocks that hold two
// tuples of three columns; the blocks that they name are f's, and those behind.
func impossible(f file.File) []file.File {
	l := []file.File{
		{Width: 0}, {Width: 1}, {Width: 2}, {Width: 4}, {Width: 5}, {Width: 6}, {Width: -3}, {Width: math.MaxInt}, {Width: math.MinInt},
		{Blocks: 2, Width: 2, Count: 5}, {Blocks: 5, Width: 4, Count: 5}, {Blocks: 1, Width: 1, Count: 5}, {Blocks: 3, Width: 0, Count: 5},
		{Blocks: 2, Width: 3, Count: 5}, {Blocks: 4, Width: 3, Count: 5}, {Blocks: 0, Width: 3, Count: 5}, {Blocks: -3, Width: 3, Count: 5},
		{Blocks: 3, Width: 3, Count: 4}, {Blocks: 3, Width: 3, Count: 7}, {Blocks: 3, Width: 3, Count: 0}, {Blocks: 3, Width: 3, Count: -5},
		{Blocks: 1, Width: 3, Count: -1}, {Blocks: -1, Width: 3, Count: -2}, {Blocks: 0, Width: 3, Count: -1},
		{Blocks: 3, Width: 3, Count: math.MaxInt}, {Blocks: math.MaxInt, Width: 3, Count: 5}, {Blocks: math.MinInt, Width: 3, Count: math.MinInt},
	}
	for i := range l {
		l[i].First = f.First
	}
	return l
}

// P14.1, R2: all wrong arguments. Nothing else is asked for ahead of them, neither room nor
// what the tuples are, nor blocks nor power.
func TestWrongArguments(t *testing.T) {
	w := made(t, 8, 50, 64)
	f := laid(t, w, 3, []api.Tuple{{1, 1, 1}, {1, 1, 1}, {-1, -5, 0}, {3, 4, 5}, {6, 7, 8}})
	tries := func() {
		t.Helper()
		for _, x := range impossible(f) {
			refused(t, w, x, api.ErrArg)
		}
	}
	tries()
	w.Space().Take(w.Space().Free())
	w.Arena().Grant(64)
	w.Device().SetFuse(0)
	tries()
	w.Device().Sync()
	tries()
}

// P14.1: with eight blocks' words there is room, with one less there isn't, which is told
// ahead of what the tuples are, of blocks that are lacking, and of the device's errors.
func TestRoom(t *testing.T) {
	for _, size := range []int{8, 9, 40, 256} {
		for _, l := range [][]api.Tuple{nil, chain(0, 9), ring(0, 9), {{-1, -1, 0}}} {
			for _, left := range []int{0, 1, size - 1, size, 5 * size, 8*size - 1} {
				w := made(t, size, blocksOf(size, 3, len(l)), 11*size)
				f := laid(t, w, 3, l)
				w.Arena().Grant(11*size - left)
				refused(t, w, f, api.ErrRoom)
				w.Device().SetFuse(0)
				refused(t, w, f, api.ErrRoom)
				w.Device().Sync()
				refused(t, w, f, api.ErrRoom)
			}
		}
		w := made(t, size, 99, 11*size)
		w.Arena().Grant(3 * size)
		ranked(t, w, mixed(chain(0, 9)))
	}
	w := made(t, 8, 0, -1)
	refused(t, w, file.File{Width: 3}, api.ErrRoom)
}

// P14.1: in a long list one tuple that isn't right, wherever it stands in the list.
func TestOneWrong(t *testing.T) {
	const n = 23
	w := plenty(t, 8, 2*n)
	for at := range n {
		for _, x := range []struct {
			column int
			value  int64
		}{
			{0, -1}, {0, -2}, {0, math.MinInt64}, // no elements
			{1, -2}, {1, math.MinInt64}, {1, math.MaxInt64}, {1, element(n + 7)}, // aren't there
			{1, element(at)},            // itself behind it
			{0, element((at + 3) % n)},  // there twice
			{1, element((at + 5) % n)},  // behind two, or a circle
			{1, element((at + 20) % n)}, // likewise
			{1, element(50)},            // the first one of another list, behind which there may be one now
		} {
			l := append(chain(0, n), chain(50, 4)...)
			l[at][x.column] = x.value
			if _, ok := walked(l); ok {
				ranked(t, w, mixed(l))
				continue
			}
			unformed(t, w, mixed(l))
			unformed(t, w, l)
		}
	}
}

// P14.1: circles of all lengths, alone, beside shorter and longer lists, and beside others.
func TestCircles(t *testing.T) {
	for n := 1; n <= 20; n++ {
		w := plenty(t, 8, 150)
		unformed(t, w, mixed(ring(0, n)))
		unformed(t, w, mixed(append(ring(0, n), ring(50, 21-n)...)))
		for _, m := range []int{1, 2, 7, 16, 17, 33, 100} {
			unformed(t, w, mixed(append(ring(0, n), chain(50, m)...)))
		}
	}
}

// P14.1: tuples each of which could be a list's, written out: one element behind two, and one
// that isn't there; a circle beside a list; an element that is there twice, with the same one
// behind it, with none, or with one and with none.
func TestTogether(t *testing.T) {
	w := plenty(t, 8, 8)
	unformed(t, w, []api.Tuple{{0, 1, 1}, {1, -1, 1}, {2, 1, 1}, {3, 9, 1}, {4, -1, 1}})
	unformed(t, w, []api.Tuple{{0, 1, 1}, {1, 0, 1}, {2, -1, 1}})
	unformed(t, w, []api.Tuple{{0, 1, 1}, {0, 1, 1}, {1, -1, 1}})
	unformed(t, w, []api.Tuple{{0, 1, 1}, {1, -1, 1}, {1, -1, 1}})
	unformed(t, w, []api.Tuple{{0, 1, 1}, {0, -1, 1}, {1, -1, 1}})
}

// P14.1, R2: a tuple that is wrong by itself is told ahead of blocks that are lacking, and, as
// it is come to, of an error behind it.
func TestFormatFirst(t *testing.T) {
	l := chain(0, 12)
	for at := range l {
		for _, x := range []api.Tuple{{-1, -1, 0}, {5, -2, 0}} {
			l := slices.Clone(l)
			l[at] = x
			w := made(t, 8, 6, 64)
			f := laid(t, w, 3, l)
			fails(t, w, f, api.ErrFormat)
			for n := range f.Blocks {
				want := api.ErrFormat
				if n <= at/2 {
					want = api.ErrFault
				}
				w.Device().SetFault(n)
				fails(t, w, f, want)
			}
			w.Device().SetFault(-1)
			lists(t, w, f, l)
		}
	}
}

// P14.1: where too few blocks are free, they are lacking, and whatever was taken is given back;
// with so many that they aren't, they aren't with more either.
func TestFull(t *testing.T) {
	for _, l := range [][]api.Tuple{chain(0, 1), mixed(chain(0, 2)), mixed(chain(0, 19)), append(chain(0, 5), chain(20, 11)...)} {
		files, enough := blocksOf(8, 3, len(l)), 0
		for spare := range 10 * files {
			w := made(t, 8, files+spare, 64)
			f := laid(t, w, 3, l)
			was := stateOf(w)
			g, e := Ranks(w, f)
			if e == api.OK {
				lists(t, w, f, l)
				enough++
				continue
			}
			if is := stateOf(w); g != (file.File{}) || e != api.ErrFull || enough > 0 || !slices.Equal(is.free, was.free) || is.used != 0 {
				t.Fatalf("%d tuples, %d blocks are free: %v, error %d", len(l), spare, g, e)
			}
			lists(t, w, f, l)
		}
		if enough == 0 || enough == 10*files {
			t.Fatalf("%d tuples: %d of %d spaces are enough", len(l), enough, 10*files)
		}
	}
}

// trials are tuples that are lists, and such as aren't, so that all steps are done of them.
func trials() [][]api.Tuple {
	return [][]api.Tuple{
		mixed(append(chain(0, 9), chain(20, 2)...)),
		mixed(append(chain(0, 5), ring(20, 3)...)),
		{{0, 1, 1}, {1, 2, 1}, {3, 2, 1}, {2, -1, 1}, {4, -1, 1}},
		{{0, 1, 1}, {1, 2, 1}, {2, -1, 1}, {1, -1, 1}},
	}
}

// eachAct lays the file of each trial anew for each act that Ranks does for it: its number,
// from 0 on, is handed on, and what Ranks would answer.
func eachAct(t *testing.T, try func(w *file.Work, f file.File, l []api.Tuple, n int, e api.Errno)) {
	t.Helper()
	for _, l := range trials() {
		w := plenty(t, 8, len(l))
		f := laid(t, w, 3, l)
		acts := w.Device().Acts()
		_, e := Ranks(w, f)
		if _, ok := walked(l); ok != (e == api.OK) {
			t.Fatalf("Ranks of %v: error %d", l, e)
		}
		for n := range w.Device().Acts() - acts {
			w := plenty(t, 8, len(l))
			f := laid(t, w, 3, l)
			w.Device().Sync()
			try(w, f, l, n, e)
		}
	}
}

// P14.1: a fault at each act. Nothing more is taken, the file stays, and the call can be made
// behind it.
func TestFault(t *testing.T) {
	eachAct(t, func(w *file.Work, f file.File, l []api.Tuple, n int, e api.Errno) {
		w.Device().SetFault(n)
		fails(t, w, f, api.ErrFault)
		lists(t, w, f, l)
		if e != api.OK {
			fails(t, w, f, e)
			return
		}
		w.Free(f)
		ranked(t, w, l)
	})
}

// P14.1: the power goes at each act. Whatever is kept of what was written, the file stays.
func TestPower(t *testing.T) {
	eachAct(t, func(w *file.Work, f file.File, l []api.Tuple, n int, e api.Errno) {
		w.Device().SetFuse(n)
		fails(t, w, f, api.ErrLost)
		fails(t, w, f, api.ErrLost)
		for _, keep := range [][]bool{nil, slices.Repeat([]bool{true}, n)} {
			lists(t, file.New(w.Device().Crash(keep), w.Arena(), w.Space()), f, l)
		}
	})
}

// P14.1: each block of the file in turn isn't sealed so: it is spoilt, another block's, of
// another width, or has too few tuples.
func TestUnsealed(t *testing.T) {
	l := mixed(chain(0, 9))
	w := plenty(t, 8, len(l))
	f := laid(t, w, 3, l)
	for at := f.First; at < f.First+f.Blocks; at++ {
		right, _ := w.Device().Read(at)
		payload, tag, e := seal.Get(right, at)
		if e != api.OK {
			t.Fatalf("Get(%d): error %d", at, e)
		}
		wrong := [][]uint64{make([]uint64, 8), slices.Clone(right)}
		wrong[1][2]++
		for _, x := range []struct {
			at  int
			tag uint64
			l   []uint64
		}{{at + 1, tag, payload}, {at, 2, payload}, {at, tag, payload[:len(payload)-3]}} {
			block, _ := seal.Put(8, x.at, x.tag, x.l)
			wrong = append(wrong, block)
		}
		for _, block := range wrong {
			w.Device().Write(at, block)
			fails(t, w, f, api.ErrFault)
		}
		w.Device().Write(at, right)
	}
	w.Free(f)
	ranked(t, w, l)
}

// P14.1: a file that would be elsewhere than it is, or have more tuples: what is read there
// tells the error.
func TestElsewhere(t *testing.T) {
	w := made(t, 8, 60, 64)
	l := chain(0, 9)
	f := laid(t, w, 3, l)
	for _, x := range []struct {
		first int
		e     api.Errno
	}{
		{0, api.ErrFault}, {f.First + 20, api.ErrFault}, {-1, api.ErrArg}, {math.MinInt, api.ErrArg},
		{w.Device().Blocks(), api.ErrArg}, {math.MaxInt, api.ErrArg},
	} {
		g := f
		g.First = x.first
		fails(t, w, g, x.e)
	}
	for _, n := range []int{10, 100*api.MostBlocks + 1, 1 << 40, math.MaxInt} {
		fails(t, w, file.File{First: f.First, Blocks: n/2 + n%2, Width: 3, Count: n}, api.ErrFault)
	}
	lists(t, w, f, l)
}

// P14.1: a file whose blocks are free, all or some of them, stays, too, and so do the blocks
// that are free.
func TestFreeBlocks(t *testing.T) {
	l := mixed(chain(0, 13))
	for _, taken := range [][2]int{{0, 0}, {1, 0}, {0, 1}, {2, 3}} { // so many of the file's first blocks, and of its last ones
		w := plenty(t, 8, len(l))
		f := laid(t, w, 3, l)
		w.Space().Give(f.First+taken[0], f.Blocks-taken[0]-taken[1])
		w.Device().SetFault(30)
		fails(t, w, f, api.ErrFault)
		free := w.Space().Free()
		g, e := Ranks(w, f)
		if e != api.OK || w.Space().Free() != free-g.Blocks || w.Arena().Used() != 0 {
			t.Fatalf("%v: %v, error %d", f, g, e)
		}
		want, _ := walked(l)
		lists(t, w, g, want)
		lists(t, w, f, l)
	}
}

// P14.1: a file of another space is read, and stays.
func TestOtherSpace(t *testing.T) {
	l := mixed(chain(0, 13))
	w := made(t, 8, 150, 64)
	f := laid(t, w, 3, l)
	other := file.New(w.Device(), w.Arena(), space.New(first+50, 100))
	g, e := Ranks(other, f)
	if e != api.OK || g.First < first+50 {
		t.Fatalf("%v, error %d", g, e)
	}
	want, _ := walked(l)
	lists(t, w, g, want)
	lists(t, w, f, l)
}
