package device

import (
	"math"
	"slices"
	"testing"

	"abutment/api"
)

// made answers a device, which there has to be.
func made(t *testing.T, size, blocks int) *Device {
	t.Helper()
	d, e := New(size, blocks)
	if d == nil || e != api.OK {
		t.Fatalf("New(%d, %d): %v %d", size, blocks, d, e)
	}
	return d
}

// filled is a block's size words, which tell what x was.
func filled(size, x int) []uint64 {
	l := make([]uint64, size)
	for i := range l {
		l[i] = uint64(x) << (8 * (i % 8))
	}
	return l
}

// put writes what x tells to the block i, and wants the answer e.
func put(t *testing.T, d *Device, i, x int, e api.Errno) {
	t.Helper()
	if got := d.Write(i, filled(d.Size(), x)); got != e {
		t.Fatalf("Write(%d): %d, not %d", i, got, e)
	}
}

// sync does a Sync, and wants the answer e.
func sync(t *testing.T, d *Device, e api.Errno) {
	t.Helper()
	if got := d.Sync(); got != e {
		t.Fatalf("Sync: %d, not %d", got, e)
	}
}

// stands wants that what x tells stands in the block i.
func stands(t *testing.T, d *Device, i, x int) {
	t.Helper()
	if l, e := d.Read(i); !slices.Equal(l, filled(d.Size(), x)) || e != api.OK {
		t.Fatalf("Read(%d): %v %d, not of %d", i, l, e, x)
	}
}

// refuses wants that Read(i) answers e, and no words.
func refuses(t *testing.T, d *Device, i int, e api.Errno) {
	t.Helper()
	if l, got := d.Read(i); len(l) != 0 || got != e {
		t.Fatalf("Read(%d): %v %d, not %d", i, l, got, e)
	}
}

// isDown wants that the power has gone, or not.
func isDown(t *testing.T, d *Device, down bool) {
	t.Helper()
	if d.Down() != down {
		t.Fatalf("Down: %v", !down)
	}
}

// hasDone wants that so many acts were done.
func hasDone(t *testing.T, d *Device, acts int) {
	t.Helper()
	if n := d.Acts(); n != acts {
		t.Fatalf("Acts: %d, not %d", n, acts)
	}
}

// P5.1, P5.2: Size and Blocks are as they were told, no act was done, and the power is there.
func TestNew(t *testing.T) {
	for _, blocks := range []int{0, 1, 2, 7, 1000, api.MostBlocks - 1, api.MostBlocks} {
		for size := api.LeastBlock; size <= api.MostBlock; size++ {
			d := made(t, size, blocks)
			if d.Size() != size || d.Blocks() != blocks || d.Acts() != 0 || d.Down() {
				t.Fatalf("New(%d, %d): %d %d %d %v", size, blocks, d.Size(), d.Blocks(), d.Acts(), d.Down())
			}
		}
	}
}

// P5.1: ErrArg, and no device.
func TestNewRefused(t *testing.T) {
	const size, blocks = api.LeastBlock, 5
	for _, c := range [][2]int{
		{api.LeastBlock - 1, blocks}, {api.MostBlock + 1, blocks}, {0, blocks}, {-1, blocks}, {-size, blocks},
		{math.MinInt, blocks}, {math.MaxInt, blocks},
		{size, -1}, {size, api.MostBlocks + 1}, {size, math.MinInt}, {size, math.MaxInt},
		{0, 0}, {-1, -1}, {math.MaxInt, math.MaxInt}, {math.MinInt, math.MinInt},
	} {
		if d, e := New(c[0], c[1]); d != nil || e != api.ErrArg {
			t.Errorf("New(%d, %d): %v %d", c[0], c[1], d, e)
		}
	}
}

// P5.1: all words are 0 at first, of the last block too.
func TestZeroAtFirst(t *testing.T) {
	for _, size := range []int{api.LeastBlock, 9, 64, api.MostBlock} {
		for _, blocks := range []int{1, 2, 50, api.MostBlocks} {
			d := made(t, size, blocks)
			for _, i := range []int{0, blocks / 2, blocks - 1} {
				stands(t, d, i, 0)
			}
		}
	}
}

// P5.1: a block has what was written to it last, and no other block has it.
func TestWriteThenRead(t *testing.T) {
	for _, size := range []int{api.LeastBlock, 11, api.MostBlock} {
		d := made(t, size, 20)
		has := make([]int, 20)
		for k := range 100 {
			i := k * 7 % 19
			has[i] = k % 13
			put(t, d, i, k%13, api.OK)
			if k%10 == 9 {
				sync(t, d, api.OK)
			}
			for j, x := range has {
				stands(t, d, j, x)
			}
		}
	}
}

// P5.1: every word of a block is its own, and has all its bits.
func TestEveryWord(t *testing.T) {
	const size = api.MostBlock
	d := made(t, size, 2)
	l := make([]uint64, size)
	for i := range l {
		l[i] = 0x9e3779b97f4a7c15 * uint64(i+1)
	}
	l[3], l[4] = math.MaxUint64, 1<<63
	if e := d.Write(1, l); e != api.OK {
		t.Fatal(e)
	}
	for range 2 {
		if got, e := d.Read(1); !slices.Equal(got, l) || e != api.OK {
			t.Fatalf("%x %d", got, e)
		}
		sync(t, d, api.OK)
	}
}

// outside are numbers that no block has.
func outside(blocks int) []int {
	return []int{-1, -2, math.MinInt, blocks, blocks + 1, api.MostBlocks, math.MaxInt}
}

// P5.1, R4: ErrArg of a block that isn't there; nothing is changed, and it isn't an act.
func TestNoSuchBlock(t *testing.T) {
	for _, blocks := range []int{0, 1, 5} {
		d := made(t, api.LeastBlock, blocks)
		for i := range blocks {
			put(t, d, i, i+1, api.OK)
		}
		for _, i := range outside(blocks) {
			refuses(t, d, i, api.ErrArg)
			put(t, d, i, 9, api.ErrArg)
		}
		hasDone(t, d, blocks)
		d = d.Crash(slices.Repeat([]bool{true}, blocks+20))
		for i := range blocks {
			stands(t, d, i, i+1)
		}
	}
}

// P5.1, R4: ErrArg of a list that hasn't just a block's words; nothing is changed.
func TestNotABlocksWords(t *testing.T) {
	for _, size := range []int{api.LeastBlock, 9, api.MostBlock} {
		d := made(t, size, 2)
		put(t, d, 0, 1, api.OK)
		for _, n := range []int{0, 1, size - 1, size + 1, 2 * size} {
			for _, i := range []int{0, 1, 2, -1} {
				if e := d.Write(i, filled(n, 7)); e != api.ErrArg {
					t.Fatalf("Write(%d) of %d words for %d: %d", i, n, size, e)
				}
			}
		}
		if e := d.Write(0, nil); e != api.ErrArg {
			t.Fatal(e)
		}
		hasDone(t, d, 1)
		stands(t, d, 0, 1)
		stands(t, d, 1, 0)
		d = d.Crash([]bool{true, true, true})
		stands(t, d, 0, 1)
		stands(t, d, 1, 0)
	}
}

// P5.1: a device without blocks refuses each of them, but can be synced.
func TestNoBlocks(t *testing.T) {
	d := made(t, api.LeastBlock, 0)
	refuses(t, d, 0, api.ErrArg)
	put(t, d, 0, 1, api.ErrArg)
	sync(t, d, api.OK)
	hasDone(t, d, 1)
	d = d.Crash([]bool{true})
	sync(t, d, api.OK)
	hasDone(t, d, 2)
}

// P5.1, R5: what is read is new memory, of blocks that were never written, written and synced.
func TestReadIsNewMemory(t *testing.T) {
	d := made(t, api.LeastBlock, 3)
	put(t, d, 1, 5, api.OK)
	sync(t, d, api.OK)
	put(t, d, 2, 6, api.OK)
	for i, x := range []int{0, 5, 6} {
		l, _ := d.Read(i)
		other, _ := d.Read(i)
		for k := range l {
			l[k] = 99
		}
		_ = append(l, 99)
		if !slices.Equal(other, filled(d.Size(), x)) {
			t.Fatalf("two Reads of %d share memory", i)
		}
		stands(t, d, i, x)
	}
	d = d.Crash([]bool{true})
	for i, x := range []int{0, 5, 6} {
		stands(t, d, i, x)
	}
}

// P5.1, R5: what is written isn't kept, and is left as it is, its spare room too.
func TestWriteLeavesItsArgument(t *testing.T) {
	d := made(t, api.LeastBlock, 2)
	whole := slices.Concat(filled(d.Size(), 3), []uint64{77, 78, 79})
	before := slices.Clone(whole)
	if e := d.Write(1, whole[:d.Size()]); e != api.OK {
		t.Fatal(e)
	}
	d.Read(1)
	sync(t, d, api.OK)
	if !slices.Equal(whole, before) {
		t.Fatalf("%v was changed to %v", before, whole)
	}
	d.Write(0, whole[:d.Size()])
	for i := range whole {
		whole[i] = 55
	}
	stands(t, d, 1, 3)
	stands(t, d, 0, 3)
	d = d.Crash([]bool{true})
	stands(t, d, 1, 3)
	stands(t, d, 0, 3)
}

// act does one act of a kind, of the block 0 where it has one, and answers its error.
func act(t *testing.T, d *Device, kind, x int) api.Errno {
	switch kind % 3 {
	case 0:
		return d.Write(0, filled(d.Size(), x))
	case 1:
		l, e := d.Read(0)
		if e != api.OK && len(l) != 0 {
			t.Fatalf("beside %d: %v", e, l)
		}
		return e
	}
	return d.Sync()
}

// P5.1, P5.2: a fuse lets just so many acts be done, of each kind, and the next one isn't.
func TestFuse(t *testing.T) {
	for n := range 8 {
		for kind := range 3 {
			d := made(t, api.LeastBlock, 2)
			put(t, d, 0, 1, api.OK)
			d.SetFuse(n)
			for k := range n {
				isDown(t, d, false)
				if e := act(t, d, k, 1); e != api.OK {
					t.Fatalf("fuse %d, the act %d: %d", n, k, e)
				}
			}
			isDown(t, d, false)
			if e := act(t, d, kind, 2); e != api.ErrLost {
				t.Fatalf("fuse %d, the last act: %d", n, e)
			}
			isDown(t, d, true)
			hasDone(t, d, 1+n)
			d = d.Crash([]bool{true, true, true, true, true, true, true, true, true})
			stands(t, d, 0, 1)
		}
	}
}

// P5.1: the power doesn't go with what is refused for its arguments; once it has gone, that
// is told ahead of them.
func TestFuseAndArguments(t *testing.T) {
	d := made(t, api.LeastBlock, 2)
	d.SetFuse(1)
	for range 3 {
		refuses(t, d, 2, api.ErrArg)
		put(t, d, -1, 1, api.ErrArg)
	}
	put(t, d, 0, 1, api.OK)
	for range 3 {
		refuses(t, d, 2, api.ErrArg)
		if e := d.Write(0, nil); e != api.ErrArg {
			t.Fatal(e)
		}
		isDown(t, d, false)
	}
	refuses(t, d, 0, api.ErrLost)
	isDown(t, d, true)
	refuses(t, d, 2, api.ErrLost)
	put(t, d, 2, 1, api.ErrLost)
	if e := d.Write(0, nil); e != api.ErrLost {
		t.Fatal(e)
	}
	hasDone(t, d, 1)
}

// P5.2: a fuse or a fault holds from when it was set on, and takes the place of the one ahead.
func TestSetAnew(t *testing.T) {
	d := made(t, api.LeastBlock, 2)
	for range 5 {
		d.SetFuse(1)
		d.SetFault(1)
		sync(t, d, api.OK)
	}
	d.SetFuse(-1)
	d.SetFault(-1)
	for range 10 {
		sync(t, d, api.OK)
	}
	for _, none := range []int{-1, -2, math.MinInt} {
		d.SetFuse(0)
		d.SetFault(0)
		d.SetFuse(none)
		d.SetFault(none)
		sync(t, d, api.OK)
	}
	d.SetFuse(math.MaxInt)
	d.SetFault(math.MaxInt)
	sync(t, d, api.OK)
	d.SetFault(2)
	d.SetFault(0)
	sync(t, d, api.ErrFault)
	sync(t, d, api.OK)
	d.SetFuse(7)
	d.SetFuse(0)
	isDown(t, d, false)
	sync(t, d, api.ErrLost)
	hasDone(t, d, 5+10+3+1+1)
}

// P5.2: where the power has gone no fuse brings it back.
func TestPowerStaysGone(t *testing.T) {
	for _, n := range []int{-1, 0, 1, 100} {
		d := made(t, api.LeastBlock, 2)
		d.SetFuse(0)
		sync(t, d, api.ErrLost)
		d.SetFuse(n)
		d.SetFault(n)
		isDown(t, d, true)
		sync(t, d, api.ErrLost)
		refuses(t, d, 0, api.ErrLost)
		put(t, d, 0, 1, api.ErrLost)
		hasDone(t, d, 0)
	}
}

// P5.1, P5.2: a fault lets just so many acts be done, then one of whichever kind not, and then all.
func TestFault(t *testing.T) {
	for n := range 8 {
		for kind := range 3 {
			d := made(t, api.LeastBlock, 2)
			put(t, d, 0, 1, api.OK)
			d.SetFault(n)
			for k := range n {
				if e := act(t, d, k, 1); e != api.OK {
					t.Fatalf("fault %d, the act %d: %d", n, k, e)
				}
			}
			if e := act(t, d, kind, 2); e != api.ErrFault {
				t.Fatalf("fault %d, the act behind: %d", n, e)
			}
			isDown(t, d, false)
			hasDone(t, d, 1+n)
			stands(t, d, 0, 1)
			for k := range 20 {
				if e := act(t, d, k, 3); e != api.OK {
					t.Fatalf("fault %d, further: %d", n, e)
				}
			}
			hasDone(t, d, 1+n+1+20)
		}
	}
}

// P5.1: a Write that answers ErrFault isn't among the writes; a Sync that does makes nothing last.
func TestFaultIsNotDone(t *testing.T) {
	d := made(t, api.LeastBlock, 3)
	put(t, d, 0, 1, api.OK)
	d.SetFault(0)
	put(t, d, 1, 2, api.ErrFault)
	stands(t, d, 1, 0)
	put(t, d, 2, 3, api.OK)
	d.SetFault(0)
	sync(t, d, api.ErrFault)
	for _, c := range []struct {
		keep []bool
		has  [3]int
	}{
		{nil, [3]int{}},
		{[]bool{true}, [3]int{1, 0, 0}},
		{[]bool{false, true}, [3]int{0, 0, 3}},
		{[]bool{true, true, true}, [3]int{1, 0, 3}},
	} {
		behind := d.Crash(c.keep)
		for i, x := range c.has {
			stands(t, behind, i, x)
		}
	}
}

// P5.1: the fault waits for an act that isn't refused for its arguments.
func TestFaultAndArguments(t *testing.T) {
	d := made(t, api.LeastBlock, 2)
	d.SetFault(1)
	refuses(t, d, 2, api.ErrArg)
	put(t, d, 2, 1, api.ErrArg)
	put(t, d, 1, 1, api.OK)
	refuses(t, d, -1, api.ErrArg)
	if e := d.Write(1, filled(7, 1)); e != api.ErrArg {
		t.Fatal(e)
	}
	refuses(t, d, 1, api.ErrFault)
	stands(t, d, 1, 1)
}

// P5.1, P5.2: where both would come it is the power; an act that answers ErrFault counts for
// the fuse, but wasn't done.
func TestFuseAndFault(t *testing.T) {
	for fuse := -1; fuse < 7; fuse++ {
		for fault := -1; fault < 7; fault++ {
			d := made(t, api.LeastBlock, 1)
			d.SetFault(fault)
			d.SetFuse(fuse)
			done := 0
			for k := range 10 {
				want := api.OK
				switch {
				case fuse >= 0 && k >= fuse:
					want = api.ErrLost
				case k == fault:
					want = api.ErrFault
				default:
					done++
				}
				if e := act(t, d, k, 1); e != want {
					t.Fatalf("fuse %d, fault %d, the act %d: %d, not %d", fuse, fault, k, e, want)
				}
				isDown(t, d, want == api.ErrLost)
				hasDone(t, d, done)
			}
		}
	}
}

// P5.2: the chapter's example.
func TestCrashKeepsOne(t *testing.T) {
	d := made(t, api.LeastBlock, 4)
	put(t, d, 0, 10, api.OK)
	sync(t, d, api.OK)
	put(t, d, 1, 11, api.OK)
	put(t, d, 2, 12, api.OK)
	d = d.Crash([]bool{false, true})
	for i, x := range []int{10, 0, 12, 0} {
		stands(t, d, i, x)
	}
}

// P5.2: of all choices among the writes, those that are kept are laid over one another in their order.
func TestCrashOfAllChoices(t *testing.T) {
	blocks := []int{2, 0, 2, 1, 0, 2}
	for n := range len(blocks) + 3 {
		for bits := range 1 << n {
			d := made(t, api.LeastBlock, 3)
			has := [3]int{21, 0, 23}
			put(t, d, 0, 21, api.OK)
			put(t, d, 2, 9, api.OK)
			put(t, d, 2, 23, api.OK)
			sync(t, d, api.OK)
			keep := make([]bool, n)
			for k, i := range blocks {
				put(t, d, i, k+1, api.OK)
				if k < n {
					keep[k] = bits>>k&1 == 1
					if keep[k] {
						has[i] = k + 1
					}
				}
			}
			whole := slices.Clone(keep)
			behind := d.Crash(keep)
			for i, x := range has {
				stands(t, behind, i, x)
			}
			if !slices.Equal(keep, whole) {
				t.Fatalf("keep was changed to %v", keep)
			}
		}
	}
}

// P5.2: behind a crash there is another device, as great, with as many acts done, without
// fuse and fault; the old one is down.
func TestCrashIsAnother(t *testing.T) {
	d := made(t, 13, 4)
	for range 5 {
		put(t, d, 3, 1, api.OK)
	}
	d.SetFuse(2)
	d.SetFault(0)
	behind := d.Crash([]bool{true})
	if behind == d || behind.Size() != 13 || behind.Blocks() != 4 || behind.Down() {
		t.Fatalf("%d %d %v", behind.Size(), behind.Blocks(), behind.Down())
	}
	hasDone(t, behind, 5)
	isDown(t, d, true)
	refuses(t, d, 3, api.ErrLost)
	refuses(t, d, 4, api.ErrLost)
	put(t, d, 3, 2, api.ErrLost)
	sync(t, d, api.ErrLost)
	for range 10 {
		stands(t, behind, 3, 1)
	}
	hasDone(t, behind, 15)
	if hasDone(t, d, 5); d.Size() != 13 || d.Blocks() != 4 {
		t.Fatalf("the old one: %d %d", d.Size(), d.Blocks())
	}
}

// P5.2: a device whose power has gone by its fuse crashes like any other.
func TestCrashOfOneThatIsDown(t *testing.T) {
	d := made(t, api.LeastBlock, 3)
	put(t, d, 0, 1, api.OK)
	sync(t, d, api.OK)
	d.SetFuse(2)
	put(t, d, 0, 2, api.OK)
	put(t, d, 1, 3, api.OK)
	put(t, d, 2, 4, api.ErrLost)
	sync(t, d, api.ErrLost)
	behind := d.Crash([]bool{false, true, true, true})
	isDown(t, behind, false)
	hasDone(t, behind, 4)
	for i, x := range []int{1, 3, 0} {
		stands(t, behind, i, x)
	}
}

// P5.2: whatever a crash kept lasts; the writes behind it are numbered from 0 on again.
func TestCrashBehindCrash(t *testing.T) {
	d := made(t, api.LeastBlock, 4)
	put(t, d, 0, 1, api.OK)
	put(t, d, 1, 2, api.OK)
	put(t, d, 2, 3, api.OK)
	d = d.Crash([]bool{true, true})
	d = d.Crash(nil)
	put(t, d, 1, 4, api.OK)
	put(t, d, 3, 5, api.OK)
	d = d.Crash([]bool{false, true})
	d = d.Crash(nil)
	for i, x := range []int{1, 2, 0, 5} {
		stands(t, d, i, x)
	}
	hasDone(t, d, 3+2+4)
}

// P5.2, R7: devices behind crashes of one device don't hang on it, nor on one another.
func TestCrashesAreApart(t *testing.T) {
	d := made(t, api.LeastBlock, 3)
	put(t, d, 0, 1, api.OK)
	sync(t, d, api.OK)
	put(t, d, 1, 2, api.OK)
	a := d.Crash([]bool{true})
	put(t, a, 0, 8, api.OK)
	put(t, a, 2, 9, api.OK)
	sync(t, a, api.OK)
	a.SetFuse(0)
	b, c := d.Crash(nil), d.Crash([]bool{true})
	put(t, b, 1, 7, api.OK)
	sync(t, b, api.OK)
	sync(t, c, api.OK)
	for i, x := range []int{1, 2, 0} {
		stands(t, c, i, x)
	}
	for i, x := range []int{1, 7, 0} {
		stands(t, b, i, x)
	}
	isDown(t, b, false)
	refuses(t, a, 0, api.ErrLost)
	a = a.Crash(nil)
	for i, x := range []int{8, 2, 9} {
		stands(t, a, i, x)
	}
}

// R7: two devices that were made alike don't hang on one another.
func TestDevicesAreApart(t *testing.T) {
	a, b := made(t, api.LeastBlock, 2), made(t, api.LeastBlock, 2)
	put(t, a, 0, 1, api.OK)
	a.SetFuse(0)
	a.SetFault(0)
	sync(t, a, api.ErrLost)
	isDown(t, b, false)
	hasDone(t, b, 0)
	stands(t, b, 0, 0)
	sync(t, b, api.OK)
}

// P5.2, R1: a nil *Device is down, and has nothing.
func TestNil(t *testing.T) {
	var d *Device
	d.SetFuse(3)
	d.SetFault(0)
	for _, i := range []int{0, -1, 5} {
		refuses(t, d, i, api.ErrLost)
		for _, l := range [][]uint64{nil, {}, make([]uint64, api.LeastBlock)} {
			if e := d.Write(i, l); e != api.ErrLost {
				t.Errorf("Write(%d) of %d words: %d", i, len(l), e)
			}
		}
	}
	sync(t, d, api.ErrLost)
	isDown(t, d, true)
	for _, keep := range [][]bool{nil, {}, {true}} {
		if d.Crash(keep) != nil {
			t.Errorf("Crash(%v) of none", keep)
		}
	}
	if d.Size() != 0 || d.Blocks() != 0 || d.Acts() != 0 {
		t.Errorf("%d %d %d", d.Size(), d.Blocks(), d.Acts())
	}
}

// R1: a Device that New didn't make has no blocks, and doesn't panic.
func TestNotMade(t *testing.T) {
	var d Device
	refuses(t, &d, 0, api.ErrArg)
	put(t, &d, 0, 0, api.ErrArg)
	sync(t, &d, api.OK)
	behind := d.Crash([]bool{true})
	refuses(t, behind, 0, api.ErrArg)
	sync(t, behind, api.OK)
}

// plain is a device as the chapter tells it: all that was done to its blocks is kept, one
// behind the other, and gone through for each answer.
type plain struct {
	done        []step
	acts        int
	fuse, fault int // how many acts more are done till it comes; below 0: it doesn't
	down        bool
}

// step is something that is done: 'r' a Read of the block i, 'w' a Write to it of what x
// tells, 's' a Sync, 'u' a fuse of x, 'a' a fault of x.
type step struct {
	kind byte
	i, x int
}

// fresh is a plain device that nothing was done to.
func fresh() plain {
	return plain{fuse: -1, fault: -1}
}

// do does what c tells, and answers what is to be answered of it: what stands in the block,
// if it is read, and the error.
func (p *plain) do(c step, blocks int) (int, api.Errno) {
	switch c.kind {
	case 'u':
		p.fuse = max(c.x, -1)
		return 0, api.OK
	case 'a':
		p.fault = max(c.x, -1)
		return 0, api.OK
	}
	if p.down {
		return 0, api.ErrLost
	}
	if c.i < 0 || c.i >= blocks {
		return 0, api.ErrArg
	}
	if p.fuse == 0 {
		p.down = true
		return 0, api.ErrLost
	}
	p.fuse = max(p.fuse-1, -1)
	if p.fault == 0 {
		p.fault = -1
		return 0, api.ErrFault
	}
	p.fault = max(p.fault-1, -1)
	p.acts++
	p.done = append(p.done, c)
	if c.kind == 'r' {
		return p.read(c.i), api.OK
	}
	return 0, api.OK
}

// read is what the last Write to the block i told.
func (p *plain) read(i int) int {
	for _, c := range slices.Backward(p.done) {
		if c.kind == 'w' && c.i == i {
			return c.x
		}
	}
	return 0
}

// crash is the plain device behind a crash: it has the writes ahead of the last Sync, and
// those behind it that are kept, and then they were synced.
func (p *plain) crash(keep []bool) plain {
	last := -1
	for k, c := range p.done {
		if c.kind == 's' {
			last = k
		}
	}
	behind := fresh()
	behind.acts = p.acts
	n := 0
	for k, c := range p.done {
		if c.kind != 'w' {
			continue
		}
		if k < last || n < len(keep) && keep[n] {
			behind.done = append(behind.done, c)
		}
		if k > last {
			n++
		}
	}
	behind.done = append(behind.done, step{kind: 's'})
	return behind
}

// does does what c tells to the device, and answers likewise; the words that are read have to
// be those that a number tells.
func does(t *testing.T, d *Device, c step) (int, api.Errno) {
	switch c.kind {
	case 'u':
		d.SetFuse(c.x)
		return 0, api.OK
	case 'a':
		d.SetFault(c.x)
		return 0, api.OK
	case 's':
		return 0, d.Sync()
	case 'w':
		return 0, d.Write(c.i, filled(d.Size(), c.x))
	}
	l, e := d.Read(c.i)
	if e != api.OK {
		if len(l) != 0 {
			t.Fatalf("Read(%d): %v beside %d", c.i, l, e)
		}
		return 0, e
	}
	if len(l) != d.Size() || !slices.Equal(l, filled(d.Size(), int(l[0]))) {
		t.Fatalf("Read(%d): %v", c.i, l)
	}
	return int(l[0]), e
}

// alike does what c tells to both, and wants the same of both.
func alike(t *testing.T, d *Device, p *plain, c step) {
	t.Helper()
	x, e := does(t, d, c)
	want, wantE := p.do(c, d.Blocks())
	if x != want || e != wantE {
		t.Fatalf("%c %d %d: %d %d, not %d %d", c.kind, c.i, c.x, x, e, want, wantE)
	}
	if d.Down() != p.down || d.Acts() != p.acts {
		t.Fatalf("%c %d %d: down %v, acts %d, not %v, %d", c.kind, c.i, c.x, d.Down(), d.Acts(), p.down, p.acts)
	}
}

// crashed wants of both the same behind a crash that keeps what keep has, and answers them.
func crashed(t *testing.T, d *Device, p *plain, keep []bool) (*Device, *plain) {
	t.Helper()
	behind, q := d.Crash(keep), p.crash(keep)
	p.down = true
	if !d.Down() || behind.Down() || behind.Acts() != q.acts || behind.Blocks() != d.Blocks() {
		t.Fatalf("down %v, %v, acts %d, blocks %d", d.Down(), behind.Down(), behind.Acts(), behind.Blocks())
	}
	for i := range d.Blocks() {
		alike(t, behind, &q, step{kind: 'r', i: i})
	}
	return behind, &q
}

// P5.1 to P5.3: all runs of six steps, and crashes behind them.
func TestAllShortRuns(t *testing.T) {
	const length = 6
	steps := []step{
		{'w', 0, 5}, {'w', 1, 6}, {'w', 0, 7}, {'s', 0, 0}, {'r', 0, 0}, {'r', 2, 0}, {'u', 0, 2}, {'a', 0, 1},
	}
	keeps := [][]bool{nil, {true}, {false, true}, {true, false, true, true, false, true}}
	runs := 1
	for range length {
		runs *= len(steps)
	}
	for run := range runs {
		d, p := made(t, api.LeastBlock, 2), fresh()
		for k, rest := 0, run; k < length; k, rest = k+1, rest/len(steps) {
			alike(t, d, &p, steps[rest%len(steps)])
		}
		for _, keep := range keeps {
			crashed(t, d, &p, keep)
		}
	}
}

// chooser answers numbers below n by a rule that goes on from seed.
func chooser(seed uint64) func(n int) int {
	return func(n int) int {
		seed = seed*6364136223846793005 + 1442695040888963407
		return int(seed>>33) % n
	}
}

// P5.1 to P5.3: long runs, through many crashes one behind the other.
func TestLongRuns(t *testing.T) {
	for seed := range 40 {
		choose := chooser(uint64(seed))
		blocks := 1 + choose(12)
		d, start := made(t, api.LeastBlock+choose(30), blocks), fresh()
		p := &start
		for range 1500 {
			c := step{kind: "wwwwwwrrrsu"[choose(11)], i: choose(blocks + 1), x: choose(250)}
			switch {
			case c.kind == 's':
				c.i = 0
			case c.kind == 'u' && choose(2) == 0:
				c.kind = 'a'
			}
			alike(t, d, p, c)
			if choose(60) == 0 || p.down && choose(4) == 0 {
				keep := make([]bool, choose(25))
				for i := range keep {
					keep[i] = choose(2) == 0
				}
				d, p = crashed(t, d, p, keep)
			}
		}
	}
}

// whole are the words of all of the device's blocks.
func whole(t *testing.T, d *Device) [][]uint64 {
	var l [][]uint64
	for i := range d.Blocks() {
		words, e := d.Read(i)
		if e != api.OK {
			t.Fatalf("Read(%d): %d", i, e)
		}
		l = append(l, words)
	}
	return l
}

// P5.3: behind a crash that keeps all all is as it was read last, and behind one that keeps
// nothing as it was when it was synced last, wherever the power goes.
func TestAllOrNothing(t *testing.T) {
	const writes = 60
	all := slices.Repeat([]bool{true}, writes)
	for n := range writes {
		choose := chooser(uint64(n))
		d := made(t, api.LeastBlock, 9)
		synced := whole(t, d)
		for k := range n {
			put(t, d, choose(9), k+1, api.OK)
			if choose(8) == 0 {
				sync(t, d, api.OK)
				synced = whole(t, d)
			}
		}
		last := whole(t, d)
		if n%2 == 0 {
			d.SetFuse(0)
			put(t, d, choose(9), 99, api.ErrLost)
		}
		for _, nothing := range [][]bool{nil, {}, make([]bool, writes)} {
			if !slices.EqualFunc(whole(t, d.Crash(nothing)), synced, slices.Equal) {
				t.Fatalf("%d writes: nothing was kept, but it isn't as it was synced", n)
			}
		}
		if !slices.EqualFunc(whole(t, d.Crash(all)), last, slices.Equal) {
			t.Fatalf("%d writes: all was kept, but it isn't as it was read", n)
		}
	}
}

// P5.1: a device of the most and greatest blocks, of which few were written.
func TestGreat(t *testing.T) {
	d := made(t, api.MostBlock, api.MostBlocks)
	put(t, d, api.MostBlocks-1, 200, api.OK)
	sync(t, d, api.OK)
	put(t, d, 0, 100, api.OK)
	d = d.Crash([]bool{true})
	stands(t, d, 0, 100)
	stands(t, d, api.MostBlocks/2, 0)
	stands(t, d, api.MostBlocks-1, 200)
	refuses(t, d, api.MostBlocks, api.ErrArg)
}
