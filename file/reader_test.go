package file

import (
	"math"
	"slices"
	"testing"

	"abutment/api"
	"abutment/space"
)

// read answers a reader, which there has to be.
func read(t *testing.T, w *Work, f File) *Reader {
	t.Helper()
	r, e := w.Read(f)
	if e != api.OK || r == nil {
		t.Fatalf("Read(%v): %v, error %d", f, r, e)
	}
	return r
}

// readsNot wants that Read answers e, and nothing beside it.
func readsNot(t *testing.T, w *Work, f File, e api.Errno) {
	t.Helper()
	if r, got := w.Read(f); r != nil || got != e {
		t.Fatalf("Read(%v): %v, error %d, not %d", f, r, got, e)
	}
}

// next wants that Next answers just these tuples.
func next(t *testing.T, r *Reader, l ...api.Tuple) {
	t.Helper()
	for i, want := range l {
		if got, ok, e := r.Next(); got != want || !ok || e != api.OK {
			t.Fatalf("Next %d: %v, %v, error %d, not %v", i, got, ok, e, want)
		}
	}
}

// ends wants that there is no next tuple.
func ends(t *testing.T, r *Reader) {
	t.Helper()
	if got, ok, e := r.Next(); got != (api.Tuple{}) || ok || e != api.OK {
		t.Fatalf("Next: %v, %v, error %d, not the end", got, ok, e)
	}
}

// nextNot wants that Next answers e, and nothing beside it.
func nextNot(t *testing.T, r *Reader, e api.Errno) {
	t.Helper()
	if got, ok, gotE := r.Next(); got != (api.Tuple{}) || ok || gotE != e {
		t.Fatalf("Next: %v, %v, error %d, not %d", got, ok, gotE, e)
	}
}

// isClosedReader wants that the reader is closed.
func isClosedReader(t *testing.T, r *Reader) {
	t.Helper()
	nextNot(t, r, api.ErrArg)
	r.Close()
	nextNot(t, r, api.ErrArg)
}

// P10.2: a reader has a grant of one block's words; each block is read when its first tuple is
// asked for, and behind the last one nothing is, however often it is asked.
func TestRead(t *testing.T) {
	for _, size := range sizes() {
		for width := 1; width <= api.Width; width++ {
			holds := (size - 2) / width
			for _, n := range []int{0, 1, holds - 1, holds, holds + 1, 3 * holds, 3*holds + 1} {
				w := made(t, size, 9, size)
				l := tuples(width, n)
				f := lay(t, w, width, l)
				w.Device().SetFuse(f.Blocks)
				was := stateOf(w)
				r := read(t, w, f)
				was.used, was.left = size, 0
				stays(t, w, was)
				for i, y := range l {
					if i%holds == 0 {
						was.acts++
					}
					next(t, r, y)
					stays(t, w, was)
				}
				for range 3 {
					ends(t, r)
					stays(t, w, was)
				}
				was.used, was.left = 0, size
				r.Close()
				stays(t, w, was)
				isClosedReader(t, r)
				stays(t, w, was)
			}
		}
	}
}

// P10.2: a reader can be closed at any tuple; it does no act.
func TestCloseOfReader(t *testing.T) {
	w := made(t, 8, 9, 8)
	l := tuples(2, 8)
	f := lay(t, w, 2, l)
	for n := range len(l) + 1 {
		r := read(t, w, f)
		next(t, r, l[:n]...)
		since := w.Device().Acts()
		r.Close()
		rests(t, w, 6)
		isClosedReader(t, r)
		does(t, w, since, 0)
		rests(t, w, 6)
	}
}

// P10.2, R2, R4: what has a width, a count or blocks that no file has isn't read, also where
// there is no room; nothing is changed.
func TestReadErrArg(t *testing.T) {
	w, small := made(t, 8, 9, 8), made(t, 8, 9, 7)
	f := lay(t, w, 2, tuples(2, 8)) // 3 blocks
	was := stateOf(w)
	var l []File
	for _, width := range wrongs() {
		l = append(l, File{f.First, f.Blocks, width, f.Count}, File{Width: width}, File{f.First, 1, width, 1})
	}
	for _, n := range []int{math.MinInt, -1 << 40, -9, -1, 0, 1, 6, 10, 11, 12, 1 << 40, math.MaxInt} {
		l = append(l, File{f.First, f.Blocks, 2, n})
	}
	for _, n := range []int{math.MinInt, -1 << 40, -3, -1, 0, 1, 2, 4, 5, 1 << 40, math.MaxInt} {
		l = append(l, File{f.First, n, 2, f.Count})
	}
	for _, n := range []int{-1, 1, 2, -1 << 40, math.MinInt, math.MaxInt} {
		l = append(l, File{0, n, 2, 0}, File{0, 0, 2, n}, File{f.First, 0, 1, n})
	}
	for width := 1; width <= api.Width; width++ {
		holds := 6 / width
		l = append(l, File{f.First, 2, width, holds}, File{f.First, 1, width, holds + 1}, File{0, -1, width, -1},
			File{0, -1, width, -holds}, File{0, 0, width, -holds}, File{0, -1, width, -holds - 1})
	}
	for _, f := range l {
		readsNot(t, w, f, api.ErrArg)
		listsNot(t, w, f, api.ErrArg)
		readsNot(t, small, f, api.ErrArg)
	}
	stays(t, w, was)
	stays(t, small, state{free: []space.Extent{{First: first, Blocks: 9}}, left: 7})
}

// P10.2: the grant is refused just if less than a block's words are left.
func TestReadRoom(t *testing.T) {
	for _, size := range sizes() {
		w := made(t, size, 9, 3*size-1)
		l := tuples(3, size/2)
		f := lay(t, w, 3, l)
		a, b := read(t, w, f), read(t, w, f)
		was := stateOf(w)
		readsNot(t, w, f, api.ErrRoom)
		readsNot(t, w, File{Width: 1}, api.ErrRoom)
		stays(t, w, was)
		next(t, a, l[0])
		a.Close()
		c := read(t, w, f)
		next(t, c, l...)
		next(t, b, l...)
		ends(t, b)
		b.Close()
		c.Close()
		rests(t, w, 9-f.Blocks)
		if w.Arena().Peak() != 2*size {
			t.Fatalf("the peak %d", w.Arena().Peak())
		}
	}
}

// P10.2: a file without tuples is read wherever it begins; of others a reader is there, and the
// device tells of a block that it hasn't.
func TestReadWhereNoBlockIs(t *testing.T) {
	w := made(t, 8, 9, 8)
	for _, at := range []int{0, first, -1, 12, math.MinInt, math.MaxInt} {
		r := read(t, w, File{First: at, Width: 4})
		ends(t, r)
		r.Close()
	}
	for _, at := range []int{-1, 12, 13, math.MinInt, math.MaxInt} {
		r := read(t, w, File{at, 1, 4, 1})
		nextNot(t, r, api.ErrArg)
		rests(t, w, 9)
		isClosedReader(t, r)
	}
	f := File{11, 2, 1, 7}
	setBlock(t, w, 11, sealed(8, 11, 1, []uint64{1, 2, 3, 4, 5, 6}))
	r := read(t, w, f)
	next(t, r, api.Tuple{1}, api.Tuple{2}, api.Tuple{3}, api.Tuple{4}, api.Tuple{5}, api.Tuple{6})
	nextNot(t, r, api.ErrArg)
	rests(t, w, 9)
	listsNot(t, w, f, api.ErrArg)
	huge := File{0, math.MaxInt, 5, math.MaxInt}
	r = read(t, w, huge)
	nextNot(t, r, api.ErrFault)
	listsNot(t, w, huge, api.ErrFault)
	listsNot(t, w, File{math.MaxInt, 2, 5, 2}, api.ErrArg)
	rests(t, w, 9)
}

// P10.2: behind an error of the device the reader is closed, and its grant released.
func TestNextErrors(t *testing.T) {
	l := tuples(2, 8)
	for n := range 3 {
		for _, c := range []struct {
			set  func(*Work)
			want api.Errno
		}{
			{func(w *Work) { w.Device().SetFault(n) }, api.ErrFault},
			{func(w *Work) { w.Device().SetFuse(n) }, api.ErrLost},
			{func(w *Work) { w.Device().SetFuse(n); w.Device().SetFault(n) }, api.ErrLost},
		} {
			w := made(t, 8, 9, 8)
			f := lay(t, w, 2, l)
			c.set(w)
			r := read(t, w, f)
			next(t, r, l[:3*n]...)
			nextNot(t, r, c.want)
			does(t, w, 3, n)
			rests(t, w, 6)
			isClosedReader(t, r)
			does(t, w, 3, n)
		}
	}
}

// P10.2: what was read is told also when the power has gone.
func TestNextWithoutPower(t *testing.T) {
	w := made(t, 8, 9, 8)
	l := tuples(2, 8)
	r := read(t, w, lay(t, w, 2, l))
	next(t, r, l[0])
	w.Device().Crash(nil)
	next(t, r, l[1:3]...)
	nextNot(t, r, api.ErrLost)
	isClosedReader(t, r)
	r = read(t, w, File{Width: 2})
	ends(t, r)
}

// unsealed are blocks of 8 words at the number at that aren't the file's there, of that width
// and so many tuples.
func unsealed(at, width, n int) [][]uint64 {
	l := words(width, tuples(width, 6))
	payload := l[:width*n]
	right := sealed(8, at, uint64(width), payload)
	blocks := [][]uint64{
		make([]uint64, 8),
		slices.Repeat([]uint64{math.MaxUint64}, 8),
		sealed(8, at+1, uint64(width), payload),
		sealed(8, at-1, uint64(width), payload),
		sealed(8, 0, uint64(width), payload),
	}
	for _, tag := range []uint64{0, uint64(width) - 1, uint64(width) + 1, uint64(width) + 1<<32, uint64(width) + 1<<63, math.MaxUint64} {
		blocks = append(blocks, sealed(8, at, tag, payload))
	}
	for k := range 7 {
		if k != width*n {
			blocks = append(blocks, sealed(8, at, uint64(width), l[:k]))
		}
	}
	for i := range right {
		for _, x := range []uint64{1, 1 << 31, 1 << 32, 1 << 63, math.MaxUint32, math.MaxUint32 << 32} {
			wrong := slices.Clone(right)
			wrong[i] ^= x
			blocks = append(blocks, wrong)
		}
	}
	return blocks
}

// P10.2: ErrFault of a block that isn't sealed so: at its number, with the width as its tag,
// full, or, as the last one, with the tuples that are left; the reader is closed then.
func TestNextOfUnsealedBlock(t *testing.T) {
	for width := 1; width <= api.Width; width++ {
		holds := 6 / width
		l := tuples(width, 3*holds-holds/2)
		for k := range 3 {
			w := made(t, 8, 9, 8)
			f := lay(t, w, width, l)
			right := block(t, w, f.First+k)
			for _, wrong := range unsealed(f.First+k, width, min(holds, len(l)-k*holds)) {
				setBlock(t, w, f.First+k, wrong)
				r := read(t, w, f)
				next(t, r, l[:k*holds]...)
				nextNot(t, r, api.ErrFault)
				rests(t, w, 6)
				isClosedReader(t, r)
				listsNot(t, w, f, api.ErrFault)
				rests(t, w, 6)
			}
			setBlock(t, w, f.First+k, right)
			lists(t, w, f, l)
		}
	}
}

// P10.2: a file's blocks are no other file's: of another width, of more or fewer tuples, or of
// one that begins elsewhere; what stands in full blocks ahead is told.
func TestReadAsAnother(t *testing.T) {
	w := made(t, 8, 9, 8)
	l := tuples(2, 8)
	lay(t, w, 2, l)
	for _, c := range []struct {
		f    File
		told []api.Tuple
	}{
		{File{first, 3, 2, 7}, l[:6]},
		{File{first, 3, 2, 9}, l[:6]},
		{File{first, 4, 2, 10}, l[:6]},
		{File{first, 2, 2, 5}, l[:3]},
		{File{first, 2, 2, 4}, l[:3]},
		{File{first, 1, 2, 2}, nil},
		{File{first, 1, 2, 1}, nil},
		{File{first + 1, 3, 2, 8}, l[3:6]},
		{File{first + 1, 3, 2, 9}, l[3:6]},
		{File{first + 2, 1, 2, 3}, nil},
		{File{first - 1, 3, 2, 8}, nil},
		{File{first, 3, 1, 16}, nil},
		{File{first, 3, 1, 18}, nil},
		{File{first, 3, 3, 6}, nil},
		{File{first, 3, 4, 3}, nil},
		{File{first, 3, 5, 3}, nil},
	} {
		r := read(t, w, c.f)
		next(t, r, c.told...)
		nextNot(t, r, api.ErrFault)
		isClosedReader(t, r)
		listsNot(t, w, c.f, api.ErrFault)
		rests(t, w, 6)
	}
	lists(t, w, File{first, 1, 2, 3}, l[:3])
	lists(t, w, File{first, 2, 2, 6}, l[:6])
	lists(t, w, File{first + 1, 2, 2, 5}, l[3:])
}

// P10.2: blocks are read when they are asked for: what was changed till then is told.
func TestReadIsLate(t *testing.T) {
	w := made(t, 8, 9, 8)
	l := tuples(2, 8)
	f := lay(t, w, 2, l)
	r := read(t, w, f)
	next(t, r, l[0])
	setBlock(t, w, f.First, make([]uint64, 8))
	setBlock(t, w, f.First+1, sealed(8, f.First+1, 2, []uint64{9, 8, 7, 6, 5, 4}))
	next(t, r, l[1], l[2], api.Tuple{9, 8}, api.Tuple{7, 6}, api.Tuple{5, 4}, l[6], l[7])
	ends(t, r)
}

// P10.4, R7: readers and writers at one time, in turns, of one file and of several.
func TestReadersInTurns(t *testing.T) {
	w := made(t, 9, 100, 63)
	a, b := tuples(2, 20), tuples(5, 11)
	f, g := lay(t, w, 2, a), lay(t, w, 5, b)
	r, s, q := read(t, w, f), read(t, w, f), read(t, w, g)
	x, y := write(t, w, 3, 40), write(t, w, 1, 4)
	var c []api.Tuple
	for i := range 20 {
		next(t, r, a[i])
		put(t, x, api.Tuple{a[i][0], 0, a[i][1]})
		c = append(c, api.Tuple{a[i][0], 0, a[i][1]})
		if i%2 == 0 {
			next(t, s, a[i/2])
			next(t, q, b[i/2])
		}
		if i%5 == 0 {
			put(t, y, api.Tuple{int64(i)})
		}
	}
	ends(t, r)
	next(t, q, b[10])
	ends(t, q)
	next(t, s, a[10:]...)
	ends(t, s)
	if w.Arena().Used() != 45 {
		t.Fatalf("%d words are granted", w.Arena().Used())
	}
	for _, r := range []*Reader{r, s, q} {
		r.Close()
	}
	lists(t, w, closed(t, x), c)
	lists(t, w, closed(t, y), []api.Tuple{{0}, {5}, {10}, {15}})
	lists(t, w, f, a)
	lists(t, w, g, b)
	if w.Arena().Used() != 0 {
		t.Fatalf("%d words are granted", w.Arena().Used())
	}
}

// R1: a copy of a reader that is closed is closed too.
func TestCopyOfReader(t *testing.T) {
	w := made(t, 8, 9, 8)
	l := tuples(2, 8)
	r := read(t, w, lay(t, w, 2, l))
	next(t, r, l[0])
	s := *r
	r.Close()
	isClosedReader(t, &s)
	rests(t, w, 6)
}
