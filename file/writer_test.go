package file

import (
	"math"
	"slices"
	"testing"

	"abutment/api"
	"abutment/space"
)

// write answers a writer, which there has to be.
func write(t *testing.T, w *Work, width, bound int) *Writer {
	t.Helper()
	x, e := w.Write(width, bound)
	if e != api.OK || x == nil {
		t.Fatalf("Write(%d, %d): %v, error %d", width, bound, x, e)
	}
	return x
}

// writesNot wants that Write answers e, and nothing beside it.
func writesNot(t *testing.T, w *Work, width, bound int, e api.Errno) {
	t.Helper()
	if x, got := w.Write(width, bound); x != nil || got != e {
		t.Fatalf("Write(%d, %d): %v, error %d, not %d", width, bound, x, got, e)
	}
}

// put wants that all of those tuples can be put.
func put(t *testing.T, x *Writer, l ...api.Tuple) {
	t.Helper()
	for i, y := range l {
		if e := x.Put(y); e != api.OK {
			t.Fatalf("Put %d of %v: error %d", i, y, e)
		}
	}
}

// putsNot wants that Put answers e.
func putsNot(t *testing.T, x *Writer, y api.Tuple, e api.Errno) {
	t.Helper()
	if got := x.Put(y); got != e {
		t.Fatalf("Put of %v: error %d, not %d", y, got, e)
	}
}

// closed answers the file of a writer, which there has to be.
func closed(t *testing.T, x *Writer) File {
	t.Helper()
	f, e := x.Close()
	if e != api.OK {
		t.Fatalf("Close: error %d", e)
	}
	return f
}

// closesNot wants that Close answers e, and nothing beside it.
func closesNot(t *testing.T, x *Writer, e api.Errno) {
	t.Helper()
	if f, got := x.Close(); f != (File{}) || got != e {
		t.Fatalf("Close: %v, error %d, not %d", f, got, e)
	}
}

// isClosedWriter wants that the writer is closed.
func isClosedWriter(t *testing.T, x *Writer) {
	t.Helper()
	for _, y := range []api.Tuple{{}, {1}, {1, 2, 3, 4, 5}, {0, 0, 0, 0, 1}} {
		putsNot(t, x, y, api.ErrArg)
	}
	closesNot(t, x, api.ErrArg)
	x.Drop()
	closesNot(t, x, api.ErrArg)
}

// P10.1: a writer takes as many blocks as its bound needs, the least ones that lie one behind
// the other, and a grant of one block's words; no act is done.
func TestWrite(t *testing.T) {
	for _, size := range sizes() {
		for width := 1; width <= api.Width; width++ {
			holds := (size - 2) / width
			for _, bound := range []int{0, 1, holds - 1, holds, holds + 1, 2 * holds, 2*holds + 1, 9 * holds} {
				w := made(t, size, 9, size)
				x := write(t, w, width, bound)
				blocks := (bound + holds - 1) / holds
				var want []space.Extent
				if blocks < 9 {
					want = []space.Extent{{First: first + blocks, Blocks: 9 - blocks}}
				}
				stays(t, w, state{free: want, used: size, peak: size})
				x.Drop()
				rests(t, w, 9)
				does(t, w, 0, 0)
			}
			w := made(t, size, 9, size)
			writesNot(t, w, width, 9*holds+1, api.ErrFull)
			stays(t, w, state{free: []space.Extent{{First: first, Blocks: 9}}, left: size})
		}
	}
}

// P10.1: the blocks lie one behind the other, where there are so many.
func TestWriteWhereThereAreSoMany(t *testing.T) {
	w := made(t, 8, 10, 100)
	for _, x := range [][2]int{{4, 1}, {7, 2}} {
		if e := w.Space().Hold(x[0], x[1]); e != api.OK {
			t.Fatal(e)
		}
	}
	for _, c := range []struct{ bound, first int }{{3, 9}, {1, 3}, {2, 5}} {
		x := write(t, w, 5, c.bound)
		put(t, x, tuples(5, c.bound)...)
		stand(t, w, closed(t, x), c.first, 5, tuples(5, c.bound))
	}
	writesNot(t, w, 5, 2, api.ErrFull)
	rests(t, w, 1)
}

// P10.1, R2, R3, R4: the errors of Write, in their order; nothing is changed.
func TestWriteErrors(t *testing.T) {
	bounds := []int{math.MinInt, -1 << 40, -100, -1, 100*api.MostBlocks + 1, 1 << 40, math.MaxInt - 1, math.MaxInt}
	full, small, fit := made(t, 8, 0, 100), made(t, 8, 0, 7), made(t, 8, 10, 100)
	for _, w := range []*Work{full, small, fit} {
		was := stateOf(w)
		for _, width := range wrongs() {
			for _, bound := range append([]int{0, 1, 100 * api.MostBlocks}, bounds...) {
				writesNot(t, w, width, bound, api.ErrArg)
			}
		}
		for width := 1; width <= api.Width; width++ {
			for _, bound := range bounds {
				writesNot(t, w, width, bound, api.ErrArg)
			}
		}
		stays(t, w, was)
	}
	for width := 1; width <= api.Width; width++ {
		for _, bound := range []int{1, 100, 100 * api.MostBlocks} {
			writesNot(t, small, width, bound, api.ErrRoom)
			writesNot(t, full, width, bound, api.ErrFull)
		}
		writesNot(t, small, width, 0, api.ErrRoom)
		writesNot(t, fit, width, 61, api.ErrFull)
		writesNot(t, fit, width, 100*api.MostBlocks, api.ErrFull)
	}
	stays(t, full, state{left: 100})
	stays(t, small, state{left: 7})
	stays(t, fit, state{free: []space.Extent{{First: first, Blocks: 10}}, left: 100})
}

// P10.1: the grant is refused just if less than a block's words are left.
func TestWriteRoom(t *testing.T) {
	for _, size := range sizes() {
		w := made(t, size, 10, 3*size-1)
		x, y := write(t, w, 1, 1), write(t, w, 1, 1)
		was := stateOf(w)
		writesNot(t, w, 1, 1, api.ErrRoom)
		stays(t, w, was)
		x.Drop()
		write(t, w, 1, 1).Drop()
		y.Drop()
		rests(t, w, 10)
		was = stateOf(w)
		if was.peak != 2*size {
			t.Fatalf("the peak %d", was.peak)
		}
	}
}

// P10.1: the greatest bound may be, where there are so many blocks.
func TestWriteMostBound(t *testing.T) {
	w := made(t, api.MostBlock, api.MostBlocks-first, api.MostBlock)
	x := write(t, w, 1, 100*api.MostBlocks)
	if n, want := w.Space().Free(), api.MostBlocks-first-393701; n != want {
		t.Fatalf("%d are free, not %d", n, want)
	}
	put(t, x, tuples(1, 300)...)
	stand(t, w, closed(t, x), first, 1, tuples(1, 300))
	rests(t, w, api.MostBlocks-first-2)
}

// P10.1: a block is written when it is full, by the Put that fills it; what is left, by Close.
func TestPutWritesFullBlocks(t *testing.T) {
	for _, size := range sizes() {
		for width := 1; width <= api.Width; width++ {
			holds := (size - 2) / width
			n := 3*holds + 1
			l := tuples(width, n)
			w := made(t, size, 10, size)
			x := write(t, w, width, n)
			for i, y := range l {
				since := w.Device().Acts()
				put(t, x, y)
				if (i+1)%holds > 0 {
					does(t, w, since, 0)
					continue
				}
				does(t, w, since, 1)
				k := i / holds
				want := blocksOf(size, first, width, l)[k]
				if got := block(t, w, first+k); !slices.Equal(got, want) {
					t.Fatalf("the block %d: %x, not %x", k, got, want)
				}
			}
			since := w.Device().Acts()
			f := closed(t, x)
			does(t, w, since, (n%holds+holds-1)/holds)
			stand(t, w, f, first, width, l)
		}
	}
}

// P10.1: Close gives back the blocks that aren't needed, the last ones, releases the grant,
// and does an act just if there are tuples left.
func TestClose(t *testing.T) {
	for width := 1; width <= api.Width; width++ {
		holds := 6 / width
		for bound := range 5*holds + 1 {
			for n := range bound + 1 {
				w := made(t, 8, 6, 8)
				x := write(t, w, width, bound)
				l := tuples(width, n)
				put(t, x, l...)
				f := closed(t, x)
				blocks := (n + holds - 1) / holds
				does(t, w, 0, blocks)
				at := first
				if n == 0 {
					at = 0
				}
				stays(t, w, state{free: []space.Extent{{First: first + blocks, Blocks: 6 - blocks}}, peak: 8, left: 8, acts: blocks})
				stand(t, w, f, at, width, l)
				was := stateOf(w)
				isClosedWriter(t, x)
				stays(t, w, was)
			}
		}
	}
}

// P10.1, R4: a tuple with something behind its width is refused, a writer that is full
// refuses any other; both go on.
func TestPutErrors(t *testing.T) {
	for width := 1; width <= api.Width; width++ {
		w := made(t, 8, 20, 8)
		l := tuples(width, 13)
		x := write(t, w, width, len(l))
		for i, y := range l {
			was := stateOf(w)
			for c := width; c < api.Width; c++ {
				for _, v := range []int64{1, -1, math.MaxInt64, math.MinInt64, 1 << 32} {
					wrong := y
					wrong[c] = v
					putsNot(t, x, wrong, api.ErrArg)
				}
			}
			stays(t, w, was)
			put(t, x, l[i])
		}
		was := stateOf(w)
		for range 3 {
			putsNot(t, x, l[0], api.ErrFull)
			putsNot(t, x, api.Tuple{}, api.ErrFull)
			if width < api.Width {
				putsNot(t, x, api.Tuple{0, 0, 0, 0, 1}, api.ErrArg)
			}
		}
		stays(t, w, was)
		stand(t, w, closed(t, x), first, width, l)
	}
}

// P10.1: a writer of no tuples is full from the beginning.
func TestPutOfBoundNone(t *testing.T) {
	w := made(t, 8, 2, 8)
	x := write(t, w, 3, 0)
	putsNot(t, x, api.Tuple{0, 0, 0, 1}, api.ErrArg)
	putsNot(t, x, api.Tuple{1, 2, 3}, api.ErrFull)
	putsNot(t, x, api.Tuple{}, api.ErrFull)
	stays(t, w, state{free: []space.Extent{{First: first, Blocks: 2}}, used: 8, peak: 8})
	if f := closed(t, x); f != (File{Width: 3}) {
		t.Fatalf("%v", f)
	}
	does(t, w, 0, 0)
	rests(t, w, 2)
}

// P10.1: behind an error of a block that is written, by Put or by Close, the writer is closed,
// its blocks are given back, its grant is released.
func TestWriteOfBlockErrors(t *testing.T) {
	l := tuples(2, 11) // four blocks, the last one of two tuples
	for n := range 4 {
		for _, c := range []struct {
			set  func(*Work)
			want api.Errno
		}{
			{func(w *Work) { w.Device().SetFault(n) }, api.ErrFault},
			{func(w *Work) { w.Device().SetFuse(n) }, api.ErrLost},
			{func(w *Work) { w.Device().SetFuse(n); w.Device().SetFault(n) }, api.ErrLost},
		} {
			w := made(t, 8, 6, 20)
			c.set(w)
			x := write(t, w, 2, 16)
			for i, y := range l {
				if n < 3 && i == 3*n+2 {
					putsNot(t, x, y, c.want)
					break
				}
				put(t, x, y)
			}
			if n == 3 {
				closesNot(t, x, c.want)
			}
			stays(t, w, state{free: []space.Extent{{First: first, Blocks: 6}}, peak: 8, left: 20, acts: n})
			isClosedWriter(t, x)
			stays(t, w, state{free: []space.Extent{{First: first, Blocks: 6}}, peak: 8, left: 20, acts: n})
		}
	}
}

// P10.1: an error of the device is told as it is, also of a block that it hasn't.
func TestWriteBeyondDevice(t *testing.T) {
	w := made(t, 8, 2, 8)
	w = New(w.Device(), w.Arena(), space.New(first+1, 5))
	x := write(t, w, 1, 18)
	put(t, x, tuples(1, 11)...)
	putsNot(t, x, api.Tuple{7}, api.ErrArg)
	isClosedWriter(t, x)
	does(t, w, 0, 1)
	rests(t, w, 5)
	x = write(t, w, 1, 18)
	put(t, x, tuples(1, 11)...)
	closesNot(t, x, api.ErrArg)
	rests(t, w, 5)
}

// P10.1: when the power has gone a writer is still there, and takes what fills no block; Close
// of nothing that is left does no act.
func TestWriteWithoutPower(t *testing.T) {
	w := made(t, 8, 6, 20)
	x := write(t, w, 2, 6)
	put(t, x, tuples(2, 3)...)
	w.Device().Crash(nil)
	y := write(t, w, 2, 6)
	put(t, y, tuples(2, 2)...)
	if f := closed(t, x); f != (File{first, 1, 2, 3}) {
		t.Fatalf("%v", f)
	}
	closesNot(t, y, api.ErrLost)
	does(t, w, 0, 1)
	rests(t, w, 5)
}

// P10.1: Drop gives all blocks back, those that were written too, and releases the grant; it
// does no act, and nothing to a writer that is closed.
func TestDrop(t *testing.T) {
	for n := range 12 {
		w := made(t, 8, 6, 20)
		x := write(t, w, 2, 11)
		put(t, x, tuples(2, n)...)
		x.Drop()
		want := state{free: []space.Extent{{First: first, Blocks: 6}}, peak: 8, left: 20, acts: n / 3}
		stays(t, w, want)
		x.Drop()
		stays(t, w, want)
		isClosedWriter(t, x)
		stays(t, w, want)
	}
	w := made(t, 8, 6, 20)
	x := write(t, w, 2, 11)
	put(t, x, tuples(2, 4)...)
	f := closed(t, x)
	other := write(t, w, 2, 9)
	was := stateOf(w)
	x.Drop()
	stays(t, w, was)
	put(t, other, tuples(2, 9)...)
	stand(t, w, closed(t, other), first+2, 2, tuples(2, 9))
	lists(t, w, f, tuples(2, 4))
}

// P10.4, R7: writers at one time, in turns, are nothing to one another.
func TestWritersInTurns(t *testing.T) {
	w := made(t, 10, 100, 50)
	lists := [][]api.Tuple{tuples(1, 20), tuples(2, 9), tuples(3, 17), tuples(4, 1), tuples(5, 12)}
	var xs []*Writer
	for i, l := range lists {
		xs = append(xs, write(t, w, i+1, len(l)))
	}
	writesNot(t, w, 1, 1, api.ErrRoom)
	for k := range 20 {
		for i, l := range lists {
			if k < len(l) {
				put(t, xs[i], l[k])
			}
		}
	}
	at := first
	for i, l := range lists {
		f := closed(t, xs[i])
		stand(t, w, f, at, i+1, l)
		at += f.Blocks
	}
	rests(t, w, 100-(at-first))
}

// R1: a copy of a writer that is closed is closed too, and changes nothing.
func TestCopyOfWriter(t *testing.T) {
	w := made(t, 8, 6, 20)
	x := write(t, w, 2, 11)
	put(t, x, tuples(2, 4)...)
	y := *x
	f := closed(t, x)
	was := stateOf(w)
	isClosedWriter(t, &y)
	stays(t, w, was)
	lists(t, w, f, tuples(2, 4))
}

// R5: a work keeps none of the arena's words but those of its grants: what another one is
// granted is its own.
func TestGrantsAreApart(t *testing.T) {
	w := made(t, 8, 6, 20)
	x := write(t, w, 5, 3)
	other, e := w.Arena().Grant(8)
	if e != api.OK {
		t.Fatal(e)
	}
	put(t, x, tuples(5, 2)...)
	if !slices.Equal(other.W, make([]uint64, 8)) {
		t.Fatalf("%v", other.W)
	}
	for i := range other.W {
		other.W[i] = math.MaxUint64
	}
	put(t, x, tuples(5, 3)[2])
	stand(t, w, closed(t, x), first, 5, tuples(5, 3))
}
