package space

import (
	"math"
	"slices"
	"testing"

	"abutment/api"
)

const most = api.MostBlocks

// made answers a space, which there has to be.
func made(t *testing.T, first, blocks int) *Space {
	t.Helper()
	s := New(first, blocks)
	if s == nil {
		t.Fatalf("New(%d, %d): none", first, blocks)
	}
	return s
}

// has wants that just these blocks are free: of each two numbers the first block of an
// extent, and how many.
func has(t *testing.T, s *Space, l ...int) {
	t.Helper()
	var want []Extent
	sum := 0
	for i := 0; i < len(l); i += 2 {
		want = append(want, Extent{First: l[i], Blocks: l[i+1]})
		sum += l[i+1]
	}
	if got := s.Extents(); !slices.Equal(got, want) {
		t.Fatalf("the extents %v, not %v", got, want)
	}
	if s.Free() != sum {
		t.Fatalf("%d are free, not %d", s.Free(), sum)
	}
}

// take wants that Take(n) answers these.
func take(t *testing.T, s *Space, n, first int, e api.Errno) {
	t.Helper()
	if got, gotE := s.Take(n); got != first || gotE != e {
		t.Fatalf("Take(%d): %d %d, not %d %d", n, got, gotE, first, e)
	}
}

// give wants that Give(first, n) answers e.
func give(t *testing.T, s *Space, first, n int, e api.Errno) {
	t.Helper()
	if got := s.Give(first, n); got != e {
		t.Fatalf("Give(%d, %d): %d, not %d", first, n, got, e)
	}
}

// hold wants that Hold(first, n) answers e.
func hold(t *testing.T, s *Space, first, n int, e api.Errno) {
	t.Helper()
	if got := s.Hold(first, n); got != e {
		t.Fatalf("Hold(%d, %d): %d, not %d", first, n, got, e)
	}
}

// broken answers a space of the blocks 10 to 29, of which 10, 11, 15, 16, 17, 22 and 29 are free.
func broken(t *testing.T) *Space {
	t.Helper()
	s := made(t, 10, 20)
	hold(t, s, 12, 3, api.OK)
	hold(t, s, 18, 4, api.OK)
	hold(t, s, 23, 6, api.OK)
	has(t, s, 10, 2, 15, 3, 22, 1, 29, 1)
	return s
}

// P7.1, P7.2: the chapter's example.
func TestExample(t *testing.T) {
	s := made(t, 2, 10)
	take(t, s, 3, 2, api.OK)
	take(t, s, 4, 5, api.OK)
	give(t, s, 2, 3, api.OK)
	take(t, s, 2, 2, api.OK)
	has(t, s, 4, 1, 9, 3)
}

// P7.1: at first all blocks are free, and no others.
func TestNew(t *testing.T) {
	for _, first := range []int{0, 1, 2, 22, most - 1, most} {
		has(t, made(t, first, 0))
		for _, blocks := range []int{1, 2, 300, most - 1, most} {
			s := made(t, first, blocks)
			has(t, s, first, blocks)
			take(t, s, blocks+1, 0, api.ErrFull)
			take(t, s, blocks, first, api.OK)
			has(t, s)
		}
	}
}

// P7.1: of what may not be there is no space.
func TestNoSpace(t *testing.T) {
	outs := []int{math.MinInt, -most, -1, most + 1, math.MaxInt}
	for _, out := range outs {
		for _, in := range []int{0, 1, most} {
			for _, c := range [][2]int{{out, in}, {in, out}} {
				if New(c[0], c[1]) != nil {
					t.Errorf("New(%d, %d)", c[0], c[1])
				}
			}
		}
		for _, other := range outs {
			if New(out, other) != nil {
				t.Errorf("New(%d, %d)", out, other)
			}
		}
	}
}

// P7.1: a space without blocks is full, and has none that may be held or given.
func TestNoBlocks(t *testing.T) {
	for _, first := range []int{0, 7, most} {
		s := made(t, first, 0)
		take(t, s, 1, 0, api.ErrFull)
		take(t, s, 0, 0, api.ErrArg)
		hold(t, s, first, 1, api.ErrArg)
		give(t, s, first, 1, api.ErrArg)
		hold(t, s, first, 0, api.ErrArg)
		give(t, s, first, 0, api.ErrArg)
		has(t, s)
	}
}

// P7.1: it is the least block that is taken, whatever would fit better.
func TestTakeIsTheLeast(t *testing.T) {
	for _, c := range []struct {
		n, first int
		left     []int
	}{
		{1, 10, []int{11, 1, 15, 3, 22, 1, 29, 1}},
		{2, 10, []int{15, 3, 22, 1, 29, 1}},
		{3, 15, []int{10, 2, 22, 1, 29, 1}},
	} {
		s := broken(t)
		take(t, s, c.n, c.first, api.OK)
		has(t, s, c.left...)
	}
	s := broken(t)
	hold(t, s, 10, 1, api.OK)
	take(t, s, 2, 15, api.OK)
	take(t, s, 2, 0, api.ErrFull)
	for _, first := range []int{11, 17, 22, 29} {
		take(t, s, 1, first, api.OK)
	}
	has(t, s)
}

// P7.1, R3, R4: ErrFull, if there are not so many one behind the other, even where as many are
// free; nothing is changed.
func TestTakeIsFull(t *testing.T) {
	s := broken(t)
	for _, n := range []int{4, 5, 6, 7, 8, 20, 21, most, most + 1, math.MaxInt - 1, math.MaxInt} {
		take(t, s, n, 0, api.ErrFull)
		has(t, s, 10, 2, 15, 3, 22, 1, 29, 1)
	}
	take(t, s, 3, 15, api.OK)
	take(t, s, 3, 0, api.ErrFull)
}

// P7.1, R2, R4: ErrArg below 1, also where nothing is free; nothing is changed.
func TestTakeBelowOne(t *testing.T) {
	full := made(t, 3, 4)
	take(t, full, 4, 3, api.OK)
	s := broken(t)
	for _, n := range []int{0, -1, -2, -20, -most, math.MinInt + 1, math.MinInt} {
		take(t, full, n, 0, api.ErrArg)
		has(t, full)
		take(t, s, n, 0, api.ErrArg)
		has(t, s, 10, 2, 15, 3, 22, 1, 29, 1)
	}
	take(t, full, 1, 0, api.ErrFull)
}

// P7.1: what is held is free no more: at the beginning of an extent, in its midst, at its end,
// and whole.
func TestHold(t *testing.T) {
	for _, c := range []struct {
		first, n int
		left     []int
	}{
		{4, 1, []int{5, 5}},
		{4, 5, []int{9, 1}},
		{5, 1, []int{4, 1, 6, 4}},
		{5, 3, []int{4, 1, 8, 2}},
		{8, 1, []int{4, 4, 9, 1}},
		{9, 1, []int{4, 5}},
		{5, 5, []int{4, 1}},
		{4, 6, nil},
	} {
		s := made(t, 4, 6)
		hold(t, s, c.first, c.n, api.OK)
		has(t, s, c.left...)
		hold(t, s, c.first, c.n, api.ErrArg)
		has(t, s, c.left...)
		give(t, s, c.first, c.n, api.OK)
		has(t, s, 4, 6)
	}
}

// P7.1: of many extents the one that has the blocks is found.
func TestHoldOfMany(t *testing.T) {
	for _, c := range []struct {
		first, n int
		left     []int
	}{
		{10, 2, []int{15, 3, 22, 1, 29, 1}},
		{11, 1, []int{10, 1, 15, 3, 22, 1, 29, 1}},
		{16, 1, []int{10, 2, 15, 1, 17, 1, 22, 1, 29, 1}},
		{22, 1, []int{10, 2, 15, 3, 29, 1}},
		{29, 1, []int{10, 2, 15, 3, 22, 1}},
	} {
		s := broken(t)
		hold(t, s, c.first, c.n, api.OK)
		has(t, s, c.left...)
	}
}

// P7.1: blocks that are given are free again, and one with those that they touch.
func TestGive(t *testing.T) {
	for _, c := range []struct {
		first, n int
		left     []int
	}{
		{12, 1, []int{10, 3, 15, 3, 22, 1, 29, 1}},
		{13, 1, []int{10, 2, 13, 1, 15, 3, 22, 1, 29, 1}},
		{14, 1, []int{10, 2, 14, 4, 22, 1, 29, 1}},
		{12, 3, []int{10, 8, 22, 1, 29, 1}},
		{18, 4, []int{10, 2, 15, 8, 29, 1}},
		{24, 4, []int{10, 2, 15, 3, 22, 1, 24, 4, 29, 1}},
		{23, 5, []int{10, 2, 15, 3, 22, 6, 29, 1}},
		{26, 3, []int{10, 2, 15, 3, 22, 1, 26, 4}},
		{23, 6, []int{10, 2, 15, 3, 22, 8}},
	} {
		s := broken(t)
		give(t, s, c.first, c.n, api.OK)
		has(t, s, c.left...)
		give(t, s, c.first, c.n, api.ErrArg)
		has(t, s, c.left...)
		hold(t, s, c.first, c.n, api.OK)
		has(t, s, 10, 2, 15, 3, 22, 1, 29, 1)
	}
}

// P7.1: at both ends of a space blocks are given as in its midst.
func TestGiveAtTheEnds(t *testing.T) {
	s := made(t, 5, 10)
	take(t, s, 10, 5, api.OK)
	give(t, s, 14, 1, api.OK)
	has(t, s, 14, 1)
	give(t, s, 5, 1, api.OK)
	has(t, s, 5, 1, 14, 1)
	give(t, s, 12, 2, api.OK)
	give(t, s, 6, 2, api.OK)
	has(t, s, 5, 3, 12, 3)
	give(t, s, 8, 4, api.OK)
	has(t, s, 5, 10)
}

// P7.1: whether blocks were taken or held, at once or one by one, is nothing to Give.
func TestGiveIsByBlocks(t *testing.T) {
	s := made(t, 2, 20)
	take(t, s, 5, 2, api.OK)
	take(t, s, 1, 7, api.OK)
	hold(t, s, 8, 4, api.OK)
	take(t, s, 3, 12, api.OK)
	has(t, s, 15, 7)
	give(t, s, 4, 9, api.OK)
	has(t, s, 4, 9, 15, 7)
	take(t, s, 8, 4, api.OK)
	take(t, s, 1, 12, api.OK)
	give(t, s, 2, 13, api.OK)
	has(t, s, 2, 20)
}

// P7.1, R4: ErrArg of blocks that aren't all free to be held; nothing is changed.
func TestHoldRefuses(t *testing.T) {
	for _, c := range [][2]int{
		{10, 3}, {11, 2}, {12, 1}, {12, 3}, {12, 4}, {14, 1}, {14, 2}, {14, 4}, {10, 6}, {10, 20}, {15, 4},
		{17, 2}, {18, 1}, {21, 2}, {22, 2}, {23, 1}, {28, 1}, {28, 2}, {15, 15},
		{9, 1}, {9, 2}, {9, 3}, {29, 2}, {30, 1}, {31, 1}, {0, 1}, {0, 30}, {0, 40}, {-1, 1}, {-10, 40},
		{10, 0}, {15, 0}, {12, 0}, {9, 0}, {30, 0}, {10, -1}, {17, -1}, {22, -7}, {30, -1}, {12, -2},
	} {
		s := broken(t)
		hold(t, s, c[0], c[1], api.ErrArg)
		has(t, s, 10, 2, 15, 3, 22, 1, 29, 1)
	}
}

// P7.1, R4: ErrArg of blocks that may not all be given; nothing is changed.
func TestGiveRefuses(t *testing.T) {
	for _, c := range [][2]int{
		{10, 1}, {10, 2}, {10, 3}, {11, 1}, {11, 2}, {11, 4}, {12, 4}, {14, 2}, {15, 1}, {16, 1}, {17, 2},
		{10, 20}, {12, 10}, {18, 5}, {21, 2}, {22, 1}, {23, 7}, {28, 2}, {29, 1},
		{9, 1}, {9, 2}, {28, 3}, {29, 2}, {30, 1}, {31, 1}, {0, 1}, {0, 40}, {-1, 1}, {-10, 40},
		{12, 0}, {13, 0}, {10, 0}, {9, 0}, {30, 0}, {12, -1}, {15, -1}, {21, -3}, {30, -1}, {23, -2},
	} {
		s := broken(t)
		give(t, s, c[0], c[1], api.ErrArg)
		has(t, s, 10, 2, 15, 3, 22, 1, 29, 1)
	}
}

// P7.1: blocks right behind the space, and right ahead of it, aren't its own, whether those
// beside them are free or not.
func TestBeyondTheSpace(t *testing.T) {
	s := made(t, 10, 20)
	for range 2 {
		for _, c := range [][2]int{{9, 1}, {8, 2}, {30, 1}, {30, 2}, {9, 2}, {29, 2}, {9, 21}, {10, 21}, {9, 22}} {
			hold(t, s, c[0], c[1], api.ErrArg)
			give(t, s, c[0], c[1], api.ErrArg)
		}
		s.Take(20) // so that all is free the first time, and nothing the second time
	}
	has(t, s)
	give(t, s, 10, 20, api.OK)
	has(t, s, 10, 20)
}

// R1: numbers that summed up are more, or less, than an int can be.
func TestGreatNumbers(t *testing.T) {
	greats := []int{math.MinInt, math.MinInt + 1, -most, most + 11, 2 * most, math.MaxInt - 10, math.MaxInt - 1, math.MaxInt}
	held := made(t, 10, most)
	hold(t, held, 10, most, api.OK)
	for _, great := range greats {
		for _, other := range append([]int{0, 1, 10, 11, most}, greats...) {
			for _, c := range [][2]int{{great, other}, {other, great}} {
				s := made(t, 10, most)
				hold(t, s, c[0], c[1], api.ErrArg)
				give(t, s, c[0], c[1], api.ErrArg)
				has(t, s, 10, most)
				hold(t, held, c[0], c[1], api.ErrArg)
				give(t, held, c[0], c[1], api.ErrArg)
				has(t, held)
			}
		}
	}
}

// P7.1: the greatest space, behind all blocks of a device.
func TestGreatest(t *testing.T) {
	s := made(t, most, most)
	hold(t, s, 2*most, 1, api.ErrArg)
	give(t, s, 2*most, 1, api.ErrArg)
	hold(t, s, 2*most-1, 1, api.OK)
	hold(t, s, most-1, 1, api.ErrArg)
	take(t, s, most, 0, api.ErrFull)
	take(t, s, most-1, most, api.OK)
	has(t, s)
	give(t, s, most, most, api.OK)
	has(t, s, most, most)
}

// P7.2, R7a: what Extents answers is new memory, its spare room too.
func TestExtentsAreNew(t *testing.T) {
	s := broken(t)
	old := s.Extents()
	for _, l := range [][]Extent{old, s.Extents()} {
		for i := range l {
			l[i] = Extent{First: 1, Blocks: 99}
		}
		_ = append(l, Extent{First: 2, Blocks: 98})
		has(t, s, 10, 2, 15, 3, 22, 1, 29, 1)
	}
	a, b := s.Extents(), s.Extents()
	a[0].Blocks = 77
	if b[0] != (Extent{First: 10, Blocks: 2}) {
		t.Fatalf("two answers share memory: %v", b)
	}
	take(t, s, 2, 10, api.OK)
	hold(t, s, 16, 1, api.OK)
	if want := []Extent{{10, 2}, {15, 3}, {22, 1}, {29, 1}}; !slices.Equal(b, want) {
		t.Fatalf("an answer was changed later: %v", b)
	}
}

// P7.2: of none all is full, and nothing is free.
func TestNil(t *testing.T) {
	var s *Space
	for _, n := range []int{math.MinInt, -1, 0, 1, most, math.MaxInt} {
		take(t, s, n, 0, api.ErrFull)
		for _, first := range []int{math.MinInt, -1, 0, 1, math.MaxInt} {
			hold(t, s, first, n, api.ErrArg)
			give(t, s, first, n, api.ErrArg)
		}
	}
	has(t, s)
}

// R1: a space that New hasn't made has no blocks, and panics neither.
func TestZeroSpace(t *testing.T) {
	s := &Space{}
	take(t, s, 1, 0, api.ErrFull)
	take(t, s, 0, 0, api.ErrArg)
	hold(t, s, 0, 1, api.ErrArg)
	give(t, s, 0, 1, api.ErrArg)
	has(t, s)
}

// R7: two spaces of the same blocks don't hang on one another.
func TestTwoSpaces(t *testing.T) {
	a, b := made(t, 3, 9), made(t, 3, 9)
	take(t, a, 4, 3, api.OK)
	hold(t, b, 8, 1, api.OK)
	has(t, a, 7, 5)
	has(t, b, 3, 5, 9, 3)
	give(t, b, 3, 4, api.ErrArg)
	give(t, a, 3, 4, api.OK)
	has(t, a, 3, 9)
	has(t, b, 3, 5, 9, 3)
}

// plain is a space as the chapter tells of it: of each block whether it is free.
type plain struct {
	first int
	free  []bool
}

// fresh is a plain space all of whose blocks are free.
func fresh(first, blocks int) *plain {
	return &plain{first: first, free: slices.Repeat([]bool{true}, blocks)}
}

// are tells whether the n blocks from first on are all the space's, and free, or all not, as
// isFree says.
func (p *plain) are(first, n int, isFree bool) bool {
	for i := first; i < first+n; i++ {
		if i < p.first || i >= p.first+len(p.free) || p.free[i-p.first] != isFree {
			return false
		}
	}
	return true
}

// turn lets the n blocks from first on be free or not.
func (p *plain) turn(first, n int, isFree bool) {
	for i := first; i < first+n; i++ {
		p.free[i-p.first] = isFree
	}
}

// change is what Give, of blocks that aren't free, or Hold, of blocks that are, does.
func (p *plain) change(first, n int, wereFree bool) api.Errno {
	if n < 1 || !p.are(first, n, wereFree) {
		return api.ErrArg
	}
	p.turn(first, n, !wereFree)
	return api.OK
}

// take is what Take does.
func (p *plain) take(n int) (int, api.Errno) {
	if n < 1 {
		return 0, api.ErrArg
	}
	for i := range p.free {
		if p.are(p.first+i, n, true) {
			p.turn(p.first+i, n, false)
			return p.first + i, api.OK
		}
	}
	return 0, api.ErrFull
}

// extents are the runs of free blocks, as pairs of numbers.
func (p *plain) extents() []int {
	var l []int
	for i, isFree := range p.free {
		switch {
		case !isFree:
		case i > 0 && p.free[i-1]:
			l[len(l)-1]++
		default:
			l = append(l, p.first+i, 1)
		}
	}
	return l
}

// step is a call: 't' Take, 'g' Give, 'h' Hold.
type step struct {
	kind     byte
	first, n int
}

// alike does the step to both, and wants the same of both.
func alike(t *testing.T, s *Space, p *plain, c step) {
	t.Helper()
	switch c.kind {
	case 't':
		first, e := p.take(c.n)
		take(t, s, c.n, first, e)
	case 'g':
		give(t, s, c.first, c.n, p.change(c.first, c.n, false))
	case 'h':
		hold(t, s, c.first, c.n, p.change(c.first, c.n, true))
	}
	has(t, s, p.extents()...)
}

// P7.1 to P7.3: from all choices of free blocks among six, every step.
func TestAllSteps(t *testing.T) {
	const first, blocks = 3, 6
	for bits := range 1 << blocks {
		ready := func() (*Space, *plain) {
			s, p := made(t, first, blocks), fresh(first, blocks)
			for i := range blocks {
				if bits>>i&1 == 1 {
					alike(t, s, p, step{'h', first + i, 1})
				}
			}
			return s, p
		}
		for n := -1; n <= blocks+2; n++ {
			s, p := ready()
			alike(t, s, p, step{'t', 0, n})
			for from := first - 2; from <= first+blocks+1; from++ {
				for _, kind := range []byte{'g', 'h'} {
					s, p := ready()
					alike(t, s, p, step{kind, from, n})
				}
			}
		}
	}
}

// P7.1 to P7.3: all runs of four steps on three blocks.
func TestAllShortRuns(t *testing.T) {
	const length = 4
	steps := []step{{'t', 0, 1}, {'t', 0, 2}, {'t', 0, 3}}
	for from := range 3 {
		for n := 1; n <= 3-from; n++ {
			steps = append(steps, step{'g', from, n}, step{'h', from, n})
		}
	}
	runs := 1
	for range length {
		runs *= len(steps)
	}
	for run := range runs {
		s, p := made(t, 0, 3), fresh(0, 3)
		for k, rest := 0, run; k < length; k, rest = k+1, rest/len(steps) {
			alike(t, s, p, steps[rest%len(steps)])
		}
	}
}

// chooser answers numbers below n by a rule that goes on from seed.
func chooser(seed uint64) func(n int) int {
	return func(n int) int {
		seed = seed*6364136223846793005 + 1442695040888963407
		return int(seed>>33) % n
	}
}

// P7.1 to P7.3: long runs, on spaces of many sizes.
func TestLongRuns(t *testing.T) {
	for seed := range 60 {
		choose := chooser(uint64(seed))
		first, blocks := choose(30), 1+choose(120)
		s, p := made(t, first, blocks), fresh(first, blocks)
		for range 1000 {
			c := step{kind: "ttggggh"[choose(7)], first: first - 1 + choose(blocks+2), n: choose(4)}
			if choose(8) == 0 {
				c.n = choose(blocks + 2)
			}
			alike(t, s, p, c)
		}
	}
}

// P7.3: what is taken isn't taken again till it is given; when all is given all is as it was,
// in whatever order it was given.
func TestTakenAndGiven(t *testing.T) {
	for seed := range 40 {
		choose := chooser(uint64(seed))
		s := broken(t)
		owned := map[int]bool{} // the blocks that were taken, and not given
		var taken []Extent
		giveOne := func() {
			i := choose(len(taken))
			x := taken[i]
			give(t, s, x.First, x.Blocks, api.OK)
			for k := range x.Blocks {
				delete(owned, x.First+k)
			}
			taken = slices.Delete(taken, i, i+1)
		}
		for range 200 {
			if len(taken) > 0 && choose(3) == 0 {
				giveOne()
				continue
			}
			n := 1 + choose(3)
			first, e := s.Take(n)
			if e != api.OK {
				continue
			}
			taken = append(taken, Extent{First: first, Blocks: n})
			for k := range n {
				if owned[first+k] {
					t.Fatalf("Take(%d): %d, but %d was taken", n, first, first+k)
				}
				owned[first+k] = true
			}
		}
		for len(taken) > 0 {
			giveOne()
		}
		has(t, s, 10, 2, 15, 3, 22, 1, 29, 1)
	}
}

// P7.1, P7.2: as many extents as there can be, which then become one.
func TestManyExtents(t *testing.T) {
	const blocks, stride = 20011, 7919 // both prime, so that each block has its turn
	s := made(t, 5, blocks)
	for i := range blocks {
		take(t, s, 1, 5+i, api.OK)
	}
	take(t, s, 1, 0, api.ErrFull)
	for i := range blocks {
		if at := i * stride % blocks; at%2 == 0 {
			give(t, s, 5+at, 1, api.OK)
		}
	}
	var want []int
	for i := 0; i < blocks; i += 2 {
		want = append(want, 5+i, 1)
	}
	has(t, s, want...)
	take(t, s, 2, 0, api.ErrFull)
	for i := range blocks {
		if at := i * stride % blocks; at%2 == 1 {
			give(t, s, 5+at, 1, api.OK)
		}
	}
	has(t, s, 5, blocks)
}
