package trial

import (
	"math"
	"slices"

	"abutment/api"
	"abutment/arena"
	"abutment/file"
	"abutment/seal"
	"abutment/space"
)

// leastBlocks is how many blocks' words have to be left in the arena.
const leastBlocks = 8

// small is the size of the blocks of most works here, the least one.
const small = api.LeastBlock

// Errors wants of the case whatever all chapters say of such calls alike: which arguments are
// wrong, how much room is enough, that errors come as they come, and that what is given stays,
// and nothing else is taken or granted then.
func (c Case) Errors(t T) {
	t.Helper()
	c.noWork(t)
	c.wrongFiles(t)
	c.room(t)
	c.blocks(t)
	c.faults(t)
	c.cuts(t)
	c.unsealed(t)
	c.elsewhere(t)
	c.freeBlocks(t)
	c.otherSpace(t)
	c.besideOthers(t)
}

// noWork wants that no work, and works of which something is nil, have no files.
func (c Case) noWork(t T) {
	t.Helper()
	for _, w := range []*file.Work{nil, {}, file.New(nil, arena.New(99), space.New(0, 99))} {
		for _, x := range []file.File{{}, {First: 3, Blocks: 1, Count: 1}} {
			var l []file.File
			for _, given := range c.Given {
				x.Width = given.Width
				l = append(l, x)
			}
			c.Refused(t, w, l, api.ErrArg)
		}
	}
}

// wrongFiles wants that files are refused that can't be, or aren't as wide as they have to be,
// ahead of all else: room, what the tuples are, blocks, and power.
func (c Case) wrongFiles(t T) {
	t.Helper()
	w := c.Plenty(t, small)
	l := c.Lay(t, w)
	c.eachWrong(t, w, l)
	w.Space().Take(w.Space().Free())
	w.Arena().Grant(leastBlocks * small)
	w.Device().SetFuse(0)
	c.eachWrong(t, w, l)
	w.Device().Sync()
	c.eachWrong(t, w, l)
}

// eachWrong wants that the call is refused with each of the files in turn made wrong, in each
// way.
func (c Case) eachWrong(t T, w *file.Work, l []file.File) {
	t.Helper()
	for i, f := range l {
		for _, x := range wrongOnes(f) {
			m := slices.Clone(l)
			m[i] = x
			c.Refused(t, w, m, api.ErrArg)
		}
	}
}

// wrongOnes are files that aren't as wide as f, or can't be; the blocks that they name are f's,
// and those behind.
func wrongOnes(f file.File) []file.File {
	var l []file.File
	for _, width := range []int{math.MinInt, -f.Width, -1, 0, 1, 2, 3, 4, 5, 6, math.MaxInt} {
		x := f
		x.Width = width
		if width > 0 && width <= api.Width {
			x.Blocks = BlocksOf(small, width, f.Count)
		}
		if width != f.Width {
			l = append(l, x)
		}
	}
	for _, blocks := range []int{math.MinInt, -f.Blocks - 1, f.Blocks - 1, f.Blocks + 1, math.MaxInt} {
		x := f
		x.Blocks = blocks
		l = append(l, x)
	}
	holds := (small - 2) / f.Width
	for _, count := range []int{math.MinInt, -f.Count - 1, (f.Blocks - 1) * holds, f.Blocks*holds + 1, math.MaxInt} {
		x := f
		x.Count = count
		l = append(l, x)
	}
	return append(l, file.File{Blocks: -1, Width: f.Width, Count: -holds}, file.File{Blocks: math.MinInt, Width: f.Width, Count: math.MinInt})
}

// room wants that there is room with eight blocks' words, and none with one less, which is told
// ahead of what the tuples are, of blocks that are lacking, and of the device's errors.
func (c Case) room(t T) {
	t.Helper()
	for _, size := range []int{api.LeastBlock, 9, 40, api.MostBlock} {
		for _, left := range []int{0, 1, size, 5 * size, leastBlocks*size - 1} {
			w := Made(t, size, c.given(size), 11*size)
			l := c.Lay(t, w)
			w.Arena().Grant(11*size - left)
			c.Refused(t, w, l, api.ErrRoom)
			w.Device().SetFuse(0)
			c.Refused(t, w, l, api.ErrRoom)
			w.Device().Sync()
			c.Refused(t, w, l, api.ErrRoom)
		}
		w := Made(t, size, c.given(size)+c.most(size), 11*size)
		w.Arena().Grant((11 - leastBlocks) * size)
		c.Holds(t, w)
	}
}

// blocks wants that blocks are lacking where too few are free, and with so many that they
// aren't, with more neither.
func (c Case) blocks(t T) {
	t.Helper()
	isEnough := false
	for spare := range c.most(small) {
		w := Made(t, small, c.given(small)+spare, leastBlocks*small)
		l := c.Lay(t, w)
		was := stateOf(w)
		made, e := c.Call(w, l)
		isEnough = isEnough || e != api.ErrFull
		if isEnough {
			Free(t, w, made)
			c.On(t, w, l)
			continue
		}
		if is := stateOf(w); !slices.Equal(is.free, was.free) || is.used != 0 {
			t.Fatalf("of %v, %d blocks are free: %v, error %d: %v, not %v", c.Given, spare, made, e, is, was)
		}
		c.Stay(t, w, l)
	}
	if !isEnough {
		t.Fatalf("of %v: %d blocks are too few", c.Given, c.most(small))
	}
}

// acts answers how many acts the call does.
func (c Case) acts(t T) int {
	t.Helper()
	w := c.Plenty(t, small)
	l := c.Lay(t, w)
	acts := w.Device().Acts()
	c.Call(w, l)
	return w.Device().Acts() - acts
}

// eachAct lays what is given anew for each act that the call does: its number, from 0 on, is
// handed on.
func (c Case) eachAct(t T, try func(w *file.Work, l []file.File, n int)) {
	t.Helper()
	for n := range c.acts(t) {
		w := c.Plenty(t, small)
		l := c.Lay(t, w)
		w.Device().Sync()
		try(w, l, n)
	}
}

// faults lets a fault come at each act. The call can be made behind it.
func (c Case) faults(t T) {
	t.Helper()
	c.eachAct(t, func(w *file.Work, l []file.File, n int) {
		t.Helper()
		w.Device().SetFault(n)
		c.Fails(t, w, l, api.ErrFault)
		c.On(t, w, l)
	})
}

// cuts lets the power go at each act. Whatever is kept of what was written, what is given stays.
func (c Case) cuts(t T) {
	t.Helper()
	c.eachAct(t, func(w *file.Work, l []file.File, n int) {
		t.Helper()
		w.Device().SetFuse(n)
		c.Fails(t, w, l, api.ErrLost)
		c.Fails(t, w, l, api.ErrLost)
		for _, keep := range [][]bool{nil, slices.Repeat([]bool{true}, n)} {
			c.Stay(t, file.New(w.Device().Crash(keep), w.Arena(), w.Space()), l)
		}
	})
}

// or answers those errors, and that of the case itself, which may come first, if it has one.
func (c Case) or(l ...api.Errno) []api.Errno {
	if c.Err == api.OK {
		return l
	}
	return append(l, c.Err)
}

// unsealed lets each block of what is given in turn not be sealed as it has to be.
func (c Case) unsealed(t T) {
	t.Helper()
	w := c.Plenty(t, small)
	l := c.Lay(t, w)
	for _, f := range l {
		for at := f.First; at < f.First+f.Blocks; at++ {
			right, _ := w.Device().Read(at)
			for _, block := range spoilt(right, at, f.Width) {
				w.Device().Write(at, block)
				c.Fails(t, w, l, c.or(api.ErrFault)...)
			}
			w.Device().Write(at, right)
		}
	}
	c.On(t, w, l)
}

// spoilt are blocks that aren't sealed as the right one is: empty, changed, another one's, of
// another width, and with too few tuples.
func spoilt(right []uint64, at, width int) [][]uint64 {
	payload, tag, _ := seal.Get(right, at)
	l := [][]uint64{make([]uint64, len(right)), slices.Clone(right)}
	l[1][0]++
	for _, x := range []struct {
		at    int
		tag   uint64
		words int
	}{{at + 1, tag, len(payload)}, {at, tag + 1, len(payload)}, {at, tag, len(payload) - width}} {
		block, _ := seal.Put(len(right), x.at, x.tag, payload[:x.words])
		l = append(l, block)
	}
	return l
}

// AtOnce wants of a case in which the tuple at of the first file is wrong by itself that this is
// told ahead of blocks that are lacking, and, as it is come to, of an error behind it.
func (c Case) AtOnce(t T, at int) {
	t.Helper()
	w := Made(t, small, c.given(small), leastBlocks*small)
	l := c.Lay(t, w)
	c.Fails(t, w, l, c.Err)
	place := at / ((small - 2) / c.Given[0].Width) // of its block
	for n := range l[0].Blocks {
		want := c.Err
		if n <= place {
			want = api.ErrFault
		}
		w.Device().SetFault(n)
		c.Fails(t, w, l, want)
	}
	w.Device().SetFault(-1)
	c.Stay(t, w, l)
}

// elsewhere lets files of what is given be elsewhere than they are, or have more tuples: what
// is read there tells the error, if blocks aren't lacking for so many.
func (c Case) elsewhere(t T) {
	t.Helper()
	w := c.Plenty(t, small)
	l := c.Lay(t, w)
	blocks := w.Device().Blocks()
	for i, f := range l {
		if f.Blocks == 0 {
			continue
		}
		m := slices.Clone(l)
		for _, at := range []int{math.MinInt, -1, blocks, math.MaxInt} {
			m[i].First = at
			c.Fails(t, w, m, c.or(api.ErrArg)...)
		}
		for _, at := range []int{0, blocks - f.Blocks} {
			m[i].First = at
			c.Fails(t, w, m, c.or(api.ErrFault)...)
		}
		holds := (small - 2) / f.Width
		for _, n := range []int{f.Blocks + 1, 100 * api.MostBlocks, 1 << 40} {
			m[i] = file.File{First: f.First, Blocks: n, Width: f.Width, Count: n * holds}
			c.Fails(t, w, m, c.or(api.ErrFault, api.ErrFull)...)
		}
	}
	c.Stay(t, w, l)
}

// freeBlocks wants that files stay whose blocks are free, all or some of them, and so do those
// blocks.
func (c Case) freeBlocks(t T) {
	t.Helper()
	for _, taken := range [][2]int{{0, 0}, {1, 0}, {0, 1}, {1, 2}} { // so many of a file's first blocks, and of its last ones
		w := c.Plenty(t, small)
		l := c.Lay(t, w)
		for _, f := range l {
			w.Space().Give(f.First+taken[0], f.Blocks-taken[0]-taken[1])
		}
		if acts := c.acts(t); acts > 0 {
			w.Device().SetFault(acts / 2)
			c.Fails(t, w, l, api.ErrFault)
		}
		c.On(t, w, l)
	}
}

// otherSpace wants that files of another space are read, and stay.
func (c Case) otherSpace(t T) {
	t.Helper()
	n := c.most(small)
	w := Made(t, small, c.given(small)+n, leastBlocks*small)
	l := c.Lay(t, w)
	from := first + c.given(small)
	for _, f := range c.On(t, file.New(w.Device(), w.Arena(), space.New(from, n)), l) {
		if f.Blocks > 0 && f.First < from {
			t.Fatalf("of %v: %v begins ahead of %d", c.Given, f, from)
		}
	}
}

// besideOthers wants that what others were granted and took stays as it is.
func (c Case) besideOthers(t T) {
	t.Helper()
	const granted = 77
	w := Made(t, small, 2*c.given(small)+c.most(small), granted+leastBlocks*small)
	grant, _ := w.Arena().Grant(granted)
	for i := range grant.W {
		grant.W[i] = uint64(i)
	}
	others := c.Lay(t, w)
	c.Holds(t, w)
	c.Stay(t, w, others)
	for i, x := range grant.W {
		if x != uint64(i) {
			t.Fatalf("of %v: the word %d of another grant is %d", c.Given, i, x)
		}
	}
}
