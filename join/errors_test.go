package join

import (
	"math"
	"slices"
	"testing"

	"abutment/api"
	"abutment/arena"
	"abutment/file"
	"abutment/seal"
	"abutment/space"
	"abutment/tuple"
)

// trials are calls of all four on files of some blocks of 8 words.
func trials() []trial {
	return []trial{
		lookTrial(risen(2, 10, 1, -7, 3, 2), 1, risen(3, 9, 0, -10, 2, 1), 2, 3),
		lookTrial(risen(1, 13, 0, 0, 1, 1), 0, risen(2, 13, 0, 0, 1, 1), 1, 0),
		lookTrial(table{width: 4}, 2, risen(2, 7, 0, 0, 1, 1), 1, 4),
		lookTrial(risen(3, 4, 0, 0, 1, 1), 0, table{width: 5}, 4, 1),
		cutTrial(anyhow(3, 9), tuple.Order{3, -1}),
		cutTrial(anyhow(5, 3), tuple.Order{-5, 4, 3, 2, 1}),
		cutTrial(table{width: 2}, tuple.Order{2}),
		numberTrial(anyhow(1, 20), -7),
		numberTrial(anyhow(4, 3), 0),
		numberTrial(table{width: 3}, 1),
		keepTrial(anyhow(2, 25), 0, 0, math.MaxInt64),
		keepTrial(anyhow(3, 7), 2, 1, 0),
		keepTrial(table{width: 1}, 0, 0, 9),
	}
}

// state is what can be seen of a work: the free blocks, the arena's measures, and the
// device's acts.
type state struct {
	free             []space.Extent
	used, peak, acts int
}

// stateOf answers a work's state.
func stateOf(w *file.Work) state {
	return state{w.Space().Extents(), w.Arena().Used(), w.Arena().Peak(), w.Device().Acts()}
}

// refused wants that a call answers ErrArg, and that nothing at all has changed.
func refused(t *testing.T, w *file.Work, call func() (file.File, api.Errno)) {
	t.Helper()
	was := stateOf(w)
	g, e := call()
	is := stateOf(w)
	if g != (file.File{}) || e != api.ErrArg {
		t.Fatalf("%v, error %d", g, e)
	}
	if !slices.Equal(is.free, was.free) || is.used != was.used || is.peak != was.peak || is.acts != was.acts {
		t.Fatalf("%+v, not %+v", is, was)
	}
}

// gives wants that a trial on these files answers e, and that nothing is taken or granted but
// what was.
func (x trial) gives(t *testing.T, w *file.Work, l []file.File, e api.Errno) {
	t.Helper()
	was := stateOf(w)
	g, got := x.call(w, l)
	is := stateOf(w)
	if g != (file.File{}) || got != e {
		t.Fatalf("%s of %v: %v, error %d, not %d", x.name, l, g, got, e)
	}
	if !slices.Equal(is.free, was.free) || is.used != was.used || is.peak > w.Arena().Room() {
		t.Fatalf("%s of %v: %+v, not %+v", x.name, l, is, was)
	}
}

// stay wants that the files of a trial are as they were laid.
func (x trial) stay(t *testing.T, w *file.Work, l []file.File) {
	t.Helper()
	for i, f := range l {
		lists(t, w, f, x.tables[i].list)
	}
}

// fails wants that a trial answers e, and that its files stay. All is taken away then.
func (x trial) fails(t *testing.T, w *file.Work, e api.Errno) {
	t.Helper()
	l := x.on(t, w)
	x.gives(t, w, l, e)
	x.stay(t, w, l)
	for _, f := range l {
		if e := w.Free(f); e != api.OK {
			t.Fatalf("Free(%v): error %d", f, e)
		}
	}
}

// P13.1, P13.2, R1: no work, and works of which something is nil, have no files.
func TestNoWork(t *testing.T) {
	files := []file.File{{}, {Width: 2}, {First: 3, Blocks: 1, Width: 2, Count: 1}, {Width: 5}}
	for _, w := range []*file.Work{nil, {}, file.New(nil, arena.New(99), space.New(0, 99))} {
		for _, f := range files {
			refused(t, w, func() (file.File, api.Errno) { return Look(w, f, 0, f, 0, 0) })
			refused(t, w, func() (file.File, api.Errno) { return Cut(w, f, tuple.Order{1}) })
			refused(t, w, func() (file.File, api.Errno) { return Number(w, f, 0) })
			refused(t, w, func() (file.File, api.Errno) { return Keep(w, f, 0, 0, 9) })
		}
	}
}

// outside are numbers that are no column of a file of that width.
func outside(width int) []int {
	return []int{math.MinInt, -1 << 32, -width, -1, width, width + 1, 1 << 32, math.MaxInt}
}

// wrongColumns wants that what isn't a column of its file is refused.
func wrongColumns(t *testing.T, w *file.Work, a, b file.File) {
	t.Helper()
	for _, c := range outside(a.Width) {
		refused(t, w, func() (file.File, api.Errno) { return Look(w, a, c, b, 0, 0) })
		refused(t, w, func() (file.File, api.Errno) { return Keep(w, a, c, 0, 9) })
	}
	for _, c := range outside(b.Width) {
		refused(t, w, func() (file.File, api.Errno) { return Look(w, a, 0, b, c, 0) })
	}
	for _, c := range outside(api.Width) {
		refused(t, w, func() (file.File, api.Errno) { return Look(w, a, 0, b, 0, c) })
	}
}

// wrongOrders wants that orders are refused that aren't formed, or name no column, or one that
// isn't the file's.
func wrongOrders(t *testing.T, w *file.Work, f file.File) {
	t.Helper()
	for _, o := range []tuple.Order{
		{}, {6}, {-6}, {math.MaxInt}, {math.MinInt}, {1, 1}, {1, -1}, {0, 1}, {1, 0, 1}, {0, 0, 0, 0, -1},
		{f.Width + 1}, {-f.Width - 1}, {1, f.Width + 1},
	} {
		refused(t, w, func() (file.File, api.Errno) { return Cut(w, f, o) })
	}
}

// impossible are files that can't be, of blocks that hold three tuples of the width 2, two of
// the width 3, and one of the width 5; the blocks that they name are f's, and those behind.
func impossible(f file.File) []file.File {
	var l []file.File
	for _, x := range []file.File{
		{Width: 0}, {Width: -1}, {Width: 6}, {Width: math.MaxInt}, {Width: math.MinInt}, {Blocks: 3, Width: 0, Count: 7},
		{Blocks: 7, Width: 6, Count: 7}, {Blocks: 2, Width: 2, Count: 7}, {Blocks: 4, Width: 2, Count: 7}, {Blocks: 0, Width: 2, Count: 7},
		{Blocks: -3, Width: 2, Count: 7}, {Blocks: 3, Width: 2, Count: 6}, {Blocks: 3, Width: 2, Count: 10}, {Blocks: 3, Width: 2, Count: 0},
		{Blocks: 3, Width: 2, Count: -7}, {Blocks: 1, Width: 2, Count: -1}, {Blocks: -1, Width: 2, Count: -3}, {Blocks: 0, Width: 2, Count: -1},
		{Blocks: 3, Width: 3, Count: 7}, {Blocks: 3, Width: 5, Count: 7}, {Blocks: 3, Width: 2, Count: math.MaxInt},
		{Blocks: math.MaxInt, Width: 2, Count: 7}, {Blocks: math.MinInt, Width: 2, Count: math.MinInt},
	} {
		x.First = f.First
		l = append(l, x)
	}
	return l
}

// wrongFiles wants that files that can't be are refused.
func wrongFiles(t *testing.T, w *file.Work, f file.File) {
	t.Helper()
	for _, x := range impossible(f) {
		refused(t, w, func() (file.File, api.Errno) { return Look(w, x, 0, f, 0, 0) })
		refused(t, w, func() (file.File, api.Errno) { return Look(w, f, 0, x, 0, 0) })
		refused(t, w, func() (file.File, api.Errno) { return Look(w, x, 0, x, 0, 0) })
		refused(t, w, func() (file.File, api.Errno) { return Cut(w, x, tuple.Order{1}) })
		refused(t, w, func() (file.File, api.Errno) { return Number(w, x, 0) })
		refused(t, w, func() (file.File, api.Errno) { return Keep(w, x, 0, 0, 9) })
	}
}

// P13.1, P13.2, R2: all wrong arguments. Neither room nor blocks nor power is asked for ahead
// of them.
func TestWrongArguments(t *testing.T) {
	w := made(t, 8, 50, 3*8)
	a, b, c := risen(2, 7, 0, 0, 1, 1), risen(3, 4, 0, 0, 1, 1), risen(5, 2, 0, 0, 1, 1)
	f, g, h := laid(t, w, 2, a.list), laid(t, w, 3, b.list), laid(t, w, 5, c.list)
	tries := func() {
		t.Helper()
		for _, x := range []file.File{f, g, h} {
			wrongColumns(t, w, x, g)
			wrongColumns(t, w, f, x)
			wrongOrders(t, w, x)
		}
		wrongColumns(t, w, file.File{Width: 4}, file.File{Width: 1})
		wrongOrders(t, w, file.File{Width: 1})
		wrongFiles(t, w, f)
		refused(t, w, func() (file.File, api.Errno) { return Number(w, h, 0) })
		refused(t, w, func() (file.File, api.Errno) { return Number(w, file.File{Width: 5}, 0) })
	}
	tries()
	rest := w.Space().Free()
	w.Space().Take(rest)
	grant, _ := w.Arena().Grant(3 * 8)
	w.Device().SetFuse(0)
	tries()
	w.Device().Sync()
	tries()
	w.Arena().Release(grant)
	again := file.New(w.Device().Crash([]bool{true, true, true, true, true, true, true}), w.Arena(), w.Space())
	lists(t, again, f, a.list)
	lists(t, again, g, b.list)
	lists(t, again, h, c.list)
}

// P13.3: as many words are granted as the readers and the writer need, whatever the files;
// with one less there is no room, which is told ahead of blocks that are lacking.
func TestRoom(t *testing.T) {
	for _, size := range []int{8, 9, 40} {
		for _, x := range trials() {
			files, most := x.needs(size)
			for _, spare := range []int{0, most} {
				w := made(t, size, files+spare, 5*size)
				l := x.on(t, w)
				for left := range x.room(size) {
					grant, _ := w.Arena().Grant(5*size - left)
					acts := w.Device().Acts()
					x.gives(t, w, l, api.ErrRoom)
					if n := w.Device().Acts() - acts; n != 0 {
						t.Fatalf("%s: %d acts", x.name, n)
					}
					w.Arena().Release(grant)
				}
				x.stay(t, w, l)
			}
			w := made(t, size, files+most, 5*size)
			w.Arena().Grant(5*size - x.room(size))
			x.makes(t, w)
		}
	}
}

// P13.3: where one block less is free than all tuples may need, they are lacking, whatever
// else is wrong with the device; with so many they aren't.
func TestFull(t *testing.T) {
	for _, x := range trials() {
		files, most := x.needs(8)
		for spare := range most {
			w := made(t, 8, files+spare, 3*8)
			x.fails(t, w, api.ErrFull)
			l := x.on(t, w)
			w.Device().SetFault(0)
			x.gives(t, w, l, api.ErrFull)
			w.Device().SetFuse(0)
			x.gives(t, w, l, api.ErrFull)
		}
		x.makes(t, made(t, 8, files+most, 3*8))
	}
}

// P13.3: where a file has more tuples than a writer may be for, blocks are lacking; no argument
// is wrong.
func TestGreatCount(t *testing.T) {
	const width = 2
	w := made(t, 8, 50, 3*8)
	b := laid(t, w, width, risen(width, 5, 0, 0, 1, 1).list)
	for _, n := range []int{100*api.MostBlocks + 1, 1 << 40, math.MaxInt} {
		blocks := n / 3
		if n%3 > 0 {
			blocks++
		}
		f := file.File{First: first + 10, Blocks: blocks, Width: width, Count: n}
		empty := table{width: width}
		for _, x := range []trial{lookTrial(empty, 0, empty, 1, 1), cutTrial(empty, tuple.Order{2, 1}), numberTrial(empty, 0), keepTrial(empty, 0, 0, 9)} {
			x.gives(t, w, []file.File{f, b}, api.ErrFull)
		}
		lookTrial(empty, 0, empty, 1, 1).gives(t, w, []file.File{b, f}, api.ErrFault)
	}
}

// eachAct lays the files of each trial anew for each act that the call does for them: its
// number, from 0 on, is handed on.
func eachAct(t *testing.T, try func(x trial, w *file.Work, l []file.File, n int)) {
	t.Helper()
	for _, x := range trials() {
		files, most := x.needs(8)
		w := made(t, 8, files+most, 3*8)
		l := x.on(t, w)
		acts := w.Device().Acts()
		if _, e := x.call(w, l); e != api.OK {
			t.Fatalf("%s: error %d", x.name, e)
		}
		for n := range w.Device().Acts() - acts {
			w := made(t, 8, files+most, 3*8)
			l := x.on(t, w)
			w.Device().Sync()
			try(x, w, l, n)
		}
	}
}

// P13.3: a fault at each act. Nothing more is taken, the files stay, and the call can be made
// behind it.
func TestFault(t *testing.T) {
	eachAct(t, func(x trial, w *file.Work, l []file.File, n int) {
		w.Device().SetFault(n)
		x.gives(t, w, l, api.ErrFault)
		x.stay(t, w, l)
		g, e := x.call(w, l)
		if e != api.OK {
			t.Fatalf("%s: error %d", x.name, e)
		}
		lists(t, w, g, x.want.list)
	})
}

// P13.3: the power goes at each act. Whatever is kept of what was written, the files stay.
func TestPower(t *testing.T) {
	eachAct(t, func(x trial, w *file.Work, l []file.File, n int) {
		w.Device().SetFuse(n)
		x.gives(t, w, l, api.ErrLost)
		x.gives(t, w, l, api.ErrLost)
		for _, keep := range [][]bool{nil, slices.Repeat([]bool{true}, n)} {
			x.stay(t, file.New(w.Device().Crash(keep), w.Arena(), w.Space()), l)
		}
	})
}

// P13.1, P13.3: a call does no acts but those of reading its files, as far as they are come
// to, once, and of writing what it makes.
func TestActs(t *testing.T) {
	for _, x := range trials() {
		w := made(t, 8, 60, 3*8)
		l := x.on(t, w)
		most := l[0].Blocks
		if len(l) > 1 && l[0].Count > 0 {
			most += l[1].Blocks
		}
		acts := w.Device().Acts()
		g, e := x.call(w, l)
		if n := w.Device().Acts() - acts; e != api.OK || n > most+g.Blocks {
			t.Fatalf("%s: %d acts, error %d", x.name, n, e)
		}
	}
}

// spoils are what may stand in a block of a file of that width instead of what does.
func spoils(t *testing.T, w *file.Work, f file.File, at int) [][]uint64 {
	t.Helper()
	d := w.Device()
	block, e := d.Read(at)
	if e != api.OK {
		t.Fatalf("Read(%d): error %d", at, e)
	}
	payload, tag, e := seal.Get(block, at)
	if e != api.OK {
		t.Fatalf("Get(%d): error %d", at, e)
	}
	l := [][]uint64{make([]uint64, d.Size()), slices.Clone(block)}
	l[1][0]++
	for _, x := range []struct {
		address int
		tag     uint64
		words   int
	}{{at + 1, tag, len(payload)}, {at, tag + 1, len(payload)}, {at, tag, len(payload) - 1}, {at, tag, len(payload) - f.Width}} {
		block, e := seal.Put(d.Size(), x.address, x.tag, payload[:x.words])
		if e != api.OK {
			t.Fatalf("Put(%d): error %d", at, e)
		}
		l = append(l, block)
	}
	return l
}

// unsealed calls try with each block of f in turn spoilt, in each way; its place in the file
// is handed on.
func unsealed(t *testing.T, w *file.Work, f file.File, try func(k int)) {
	t.Helper()
	for k := range f.Blocks {
		right, _ := w.Device().Read(f.First + k)
		for _, block := range spoils(t, w, f, f.First+k) {
			w.Device().Write(f.First+k, block)
			try(k)
		}
		w.Device().Write(f.First+k, right)
	}
}

// P13.3: each block of the first file in turn isn't sealed so.
func TestUnsealed(t *testing.T) {
	for _, x := range trials() {
		files, most := x.needs(8)
		w := made(t, 8, files+most, 3*8)
		l := x.on(t, w)
		unsealed(t, w, l[0], func(int) { x.gives(t, w, l, api.ErrFault) })
		x.stay(t, w, l)
	}
}

// P13.1: all of a is come to, and of b no tuple behind the first one that isn't below a's last
// key: nor is its block, if that begins there.
func TestUnsealedBehind(t *testing.T) {
	const n = 13
	for key := int64(-1); key <= n; key++ {
		for _, asked := range [][]api.Tuple{{{key}}, {{-5}, {key}}, {{key}, {key}}} {
			x := lookTrial(table{1, asked}, 0, risen(2, n, 0, 0, 1, 1), 1, 1)
			w := made(t, 8, 20, 3*8)
			l := x.on(t, w)
			last := min(max(key, 0), n-1) / 3 // the block of the last tuple that is come to
			unsealed(t, w, l[1], func(k int) {
				if int64(k) <= last {
					x.gives(t, w, l, api.ErrFault)
					return
				}
				g, e := x.call(w, l)
				if e != api.OK {
					t.Fatalf("the key %d, the block %d: error %d", key, k, e)
				}
				lists(t, w, g, x.want.list)
				w.Free(g)
			})
		}
	}
	x := lookTrial(table{width: 1}, 0, risen(2, n, 0, 0, 1, 1), 1, 1)
	w := made(t, 8, 20, 3*8)
	l := x.on(t, w)
	unsealed(t, w, l[1], func(int) {
		if g, e := x.call(w, l); e != api.OK || g != (file.File{Width: 2}) {
			t.Fatalf("%v, error %d", g, e)
		}
	})
}

// P13.1, P13.3: of a tuple that doesn't rise and an error of the device the one is told that
// is come to first.
func TestFormatOrFault(t *testing.T) {
	w := made(t, 8, 40, 3*8)
	keys := []int64{0, 1, 2, 3, 4, 5, 6, 7, 8}
	for at := 1; at < len(keys); at++ {
		l := slices.Clone(keys)
		l[at] = -1
		x := lookTrial(column(keys), 0, column(keys), 1, 2)
		for i := range x.tables {
			y := trial{name: x.name, tables: slices.Clone(x.tables), call: x.call}
			y.tables[i] = column(l)
			files := y.on(t, w)
			unsealed(t, w, files[i], func(k int) {
				e := api.ErrFormat
				if k <= at/3 {
					e = api.ErrFault
				}
				y.gives(t, w, files, e)
			})
			w.Free(files[0])
			w.Free(files[1])
		}
	}
}

// P13.3: files whose blocks are free, all or some of them, stay, too.
func TestFreeBlocks(t *testing.T) {
	for _, x := range trials() {
		for _, taken := range [][2]int{{0, 0}, {1, 0}, {0, 1}, {2, 1}} { // so many of a file's first blocks, and of its last ones
			w := made(t, 8, 60, 3*8)
			l := x.on(t, w)
			for _, f := range l {
				w.Space().Give(f.First+taken[0], f.Blocks-taken[0]-taken[1])
			}
			free := w.Space().Free()
			g, e := x.call(w, l)
			if e != api.OK || w.Space().Free() != free-g.Blocks || w.Arena().Used() != 0 {
				t.Fatalf("%s of %v: %v, error %d", x.name, l, g, e)
			}
			x.stay(t, w, l)
			lists(t, w, g, x.want.list)
			w.Free(g)
			if l[0].Blocks > 0 {
				w.Device().SetFault(0)
				x.gives(t, w, l, api.ErrFault)
			}
		}
	}
}

// P13.3: files of another space are read, and stay.
func TestOtherSpace(t *testing.T) {
	for _, x := range trials() {
		w := made(t, 8, 60, 3*8)
		l := x.on(t, w)
		other := file.New(w.Device(), w.Arena(), space.New(first+30, 30))
		g, e := x.call(other, l)
		if e != api.OK || g.Blocks > 0 && g.First != first+30 {
			t.Fatalf("%s of %v: %v, error %d", x.name, l, g, e)
		}
		x.stay(t, w, l)
		lists(t, w, g, x.want.list)
	}
}

// P13.3: a file that would be elsewhere than it is: what is read there tells the error.
func TestElsewhere(t *testing.T) {
	for _, x := range trials() {
		w := made(t, 8, 60, 3*8)
		l := x.on(t, w)
		if l[0].Blocks == 0 {
			continue
		}
		for _, y := range []struct {
			first int
			e     api.Errno
		}{
			{0, api.ErrFault}, {l[0].First + 20, api.ErrFault}, {-1, api.ErrArg}, {math.MinInt, api.ErrArg},
			{w.Device().Blocks(), api.ErrArg}, {math.MaxInt, api.ErrArg},
		} {
			for i := range l {
				files := slices.Clone(l)
				files[i].First = y.first
				if files[i].Blocks > 0 {
					x.gives(t, w, files, y.e)
				}
			}
		}
		x.stay(t, w, l)
	}
}

// P13.3: what others were granted and took stays as it is.
func TestBesideOthers(t *testing.T) {
	for _, x := range trials() {
		w := made(t, 8, 60, 77+3*8)
		grant, _ := w.Arena().Grant(77)
		for i := range grant.W {
			grant.W[i] = uint64(i)
		}
		f := anyhow(5, 4)
		other := laid(t, w, 5, f.list)
		x.makes(t, w)
		lists(t, w, other, f.list)
		for i, y := range grant.W {
			if y != uint64(i) {
				t.Fatalf("the word %d of another grant is %d", i, y)
			}
		}
	}
}
