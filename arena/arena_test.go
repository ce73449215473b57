package arena

import (
	"math"
	"slices"
	"testing"

	"abutment/api"
)

// measures wants that the arena tells these measures, and what is left by them.
func measures(t *testing.T, a *Arena, room, used, peak int) {
	t.Helper()
	if a.Room() != room || a.Used() != used || a.Peak() != peak || a.Left() != room-used {
		t.Fatalf("Room %d, Used %d, Peak %d, Left %d, not %d %d %d %d",
			a.Room(), a.Used(), a.Peak(), a.Left(), room, used, peak, room-used)
	}
}

// granted answers a grant of n words, all 0, which there has to be.
func granted(t *testing.T, a *Arena, n int) *Buf {
	t.Helper()
	b, e := a.Grant(n)
	if b == nil || e != api.OK {
		t.Fatalf("Grant(%d): %v %d", n, b, e)
	}
	has(t, b, make([]uint64, n))
	return b
}

// refuses wants that Grant(n) answers e, and no buffer.
func refuses(t *testing.T, a *Arena, n int, e api.Errno) {
	t.Helper()
	if b, got := a.Grant(n); b != nil || got != e {
		t.Fatalf("Grant(%d): %v %d, not %d", n, b, got, e)
	}
}

// has wants that the buffer has just these words.
func has(t *testing.T, b *Buf, l []uint64) {
	t.Helper()
	if !slices.Equal(b.W, l) {
		t.Fatalf("%v, not %v", b.W, l)
	}
}

// release releases a grant that stands.
func release(t *testing.T, a *Arena, b *Buf) {
	t.Helper()
	if !a.Release(b) {
		t.Fatal("a grant that stands isn't released")
	}
	has(t, b, nil)
}

// keeps wants that b is none of the arena's grants that stand, and is left as it is.
func keeps(t *testing.T, a *Arena, b *Buf) {
	t.Helper()
	var l []uint64
	if b != nil {
		l = slices.Clone(b.W)
	}
	if a.Release(b) {
		t.Fatal("what is no grant that stands is released")
	}
	if b != nil {
		has(t, b, l)
	}
}

// P6.1: the chapter's example.
func TestExample(t *testing.T) {
	a := New(10)
	b := granted(t, a, 4)
	refuses(t, a, 7, api.ErrRoom)
	release(t, a, b)
	granted(t, a, 10)
	measures(t, a, 10, 10, 10)
}

// P6.1: an arena is empty at first, and a room below 0 is 0.
func TestNew(t *testing.T) {
	for _, room := range []int{0, 1, 2, 127, 128, api.MostRoom, api.MostRoom + 1, math.MaxInt - 1, math.MaxInt} {
		measures(t, New(room), room, 0, 0)
	}
	for _, room := range []int{-1, -2, -api.MostRoom, math.MinInt + 1, math.MinInt} {
		a := New(room)
		measures(t, a, 0, 0, 0)
		refuses(t, a, 1, api.ErrRoom)
		granted(t, a, 0)
		measures(t, a, 0, 0, 0)
	}
}

// P6.1: what is Left is granted, and not a word more.
func TestJustWhatIsLeft(t *testing.T) {
	for _, room := range []int{0, 1, 2, 7, 128, api.MostRoom} {
		for _, used := range []int{0, 1, room / 2, room - 1, room} {
			if used < 0 || used > room {
				continue
			}
			a := New(room)
			granted(t, a, used)
			refuses(t, a, room-used+1, api.ErrRoom)
			measures(t, a, room, used, used)
			granted(t, a, room-used)
			measures(t, a, room, room, room)
			refuses(t, a, 1, api.ErrRoom)
			measures(t, a, room, room, room)
		}
	}
}

// P6.1, R4: ErrArg below 0, also where nothing is left; nothing is changed.
func TestBelowZero(t *testing.T) {
	for _, room := range []int{0, 5, math.MaxInt} {
		a := New(room)
		used := min(room, 5)
		b := granted(t, a, used)
		for _, n := range []int{-1, -2, -5, -api.MostRoom, math.MinInt + 1, math.MinInt} {
			refuses(t, a, n, api.ErrArg)
			measures(t, a, room, used, used)
		}
		release(t, a, b)
		measures(t, a, room, 0, used)
	}
}

// P6.1, R1, R4: ErrRoom of whatever is too much, also where it and what is used are more than
// an int can be; nothing is changed.
func TestTooMuch(t *testing.T) {
	for _, room := range []int{0, 1, 9, api.MostRoom} {
		a := New(room)
		b := granted(t, a, min(room, 3))
		for _, n := range []int{room + 1, room + 2, math.MaxInt / 8, math.MaxInt/8 + 1, math.MaxInt - 1, math.MaxInt} {
			refuses(t, a, n, api.ErrRoom)
			measures(t, a, room, min(room, 3), min(room, 3))
		}
		release(t, a, b)
		granted(t, a, room)
	}
}

// R1: nothing panics, however great the room, and what is asked of it.
func TestGreatRoom(t *testing.T) {
	a := New(math.MaxInt)
	b := granted(t, a, 3)
	for _, n := range []int{1 << 28, math.MaxInt / 8, math.MaxInt/8 + 1, math.MaxInt - 3, math.MaxInt - 2, math.MaxInt} {
		refuses(t, a, n, api.ErrRoom)
		measures(t, a, math.MaxInt, 3, 3)
	}
	release(t, a, b)
	measures(t, a, math.MaxInt, 0, 3)
}

// P6.1: a grant of no words stands too, till it is released.
func TestNoWords(t *testing.T) {
	for _, room := range []int{0, 3} {
		a := New(room)
		granted(t, a, room)
		x, y := granted(t, a, 0), granted(t, a, 0)
		if x == y {
			t.Fatal("two grants are one")
		}
		measures(t, a, room, room, room)
		release(t, a, x)
		keeps(t, a, x)
		release(t, a, y)
		keeps(t, a, y)
		measures(t, a, room, room, room)
	}
}

// P6.1: a grant is released once.
func TestReleasedOnce(t *testing.T) {
	a := New(10)
	x, y := granted(t, a, 4), granted(t, a, 5)
	release(t, a, x)
	for range 3 {
		keeps(t, a, x)
		measures(t, a, 10, 5, 9)
	}
	z := granted(t, a, 4)
	keeps(t, a, x)
	measures(t, a, 10, 9, 9)
	release(t, a, y)
	release(t, a, z)
	measures(t, a, 10, 0, 9)
}

// P6.1: no buffer, one that was never granted, a copy, and one that was released and was
// given words by its holder, are no grants that stand.
func TestNoGrant(t *testing.T) {
	a := New(10)
	keeps(t, a, nil)
	b := granted(t, a, 4)
	twin := *b
	gone := granted(t, a, 2)
	release(t, a, gone)
	gone.W = b.W
	for _, other := range []*Buf{nil, {}, {W: make([]uint64, 4)}, {W: b.W}, &twin, gone} {
		keeps(t, a, other)
		measures(t, a, 10, 4, 6)
	}
	release(t, a, b)
	keeps(t, a, &twin)
	measures(t, a, 10, 0, 6)
}

// P6.1, R7: the grants of one arena are none of another one's.
func TestTwoArenas(t *testing.T) {
	a, other := New(10), New(10)
	x, y := granted(t, a, 4), granted(t, other, 7)
	keeps(t, a, y)
	keeps(t, other, x)
	measures(t, a, 10, 4, 4)
	measures(t, other, 10, 7, 7)
	release(t, a, x)
	keeps(t, other, x)
	release(t, other, y)
	keeps(t, a, y)
	measures(t, a, 10, 0, 4)
	measures(t, other, 10, 0, 7)
}

// P6.1: as many words come back as were granted, whatever the holder made of W.
func TestWIsTheHolders(t *testing.T) {
	for _, change := range []func(b *Buf){
		func(b *Buf) { b.W = nil },
		func(b *Buf) { b.W = b.W[:1] },
		func(b *Buf) { b.W = b.W[2:] },
		func(b *Buf) { b.W = append(b.W, 1, 2, 3) },
		func(b *Buf) { b.W = make([]uint64, 100) },
		func(b *Buf) { *b = Buf{} },
	} {
		a := New(10)
		b := granted(t, a, 4)
		change(b)
		measures(t, a, 10, 4, 4)
		refuses(t, a, 7, api.ErrRoom)
		release(t, a, b)
		measures(t, a, 10, 0, 4)
		granted(t, a, 10)
		measures(t, a, 10, 10, 10)
	}
}

// P6.1: the peak is the greatest sum at one time, not of all grants, and what is refused is
// none of it.
func TestPeak(t *testing.T) {
	a := New(100)
	for range 20 {
		release(t, a, granted(t, a, 30))
		measures(t, a, 100, 0, 30)
	}
	x, y := granted(t, a, 10), granted(t, a, 19)
	measures(t, a, 100, 29, 30)
	z := granted(t, a, 2)
	measures(t, a, 100, 31, 31)
	refuses(t, a, 70, api.ErrRoom)
	refuses(t, a, -1, api.ErrArg)
	release(t, a, y)
	measures(t, a, 100, 12, 31)
	y = granted(t, a, 19)
	measures(t, a, 100, 31, 31)
	for _, b := range []*Buf{z, x, y} {
		release(t, a, b)
	}
	measures(t, a, 100, 0, 31)
	granted(t, a, 100)
	measures(t, a, 100, 100, 100)
}

// P6.2: buffers don't share words, those that follow on a released one and spare room neither.
func TestWordsAreNotShared(t *testing.T) {
	const room, size = 60, 6
	a := New(room)
	var held []*Buf
	fill := func(k int) []uint64 { return slices.Repeat([]uint64{uint64(k + 1)}, size) }
	for k := range room / size {
		b := granted(t, a, size)
		copy(b.W, fill(k))
		_ = append(b.W, math.MaxUint64)
		held = append(held, b)
	}
	for k, b := range held {
		has(t, b, fill(k))
	}
	for k, b := range held {
		old := b.W
		release(t, a, b)
		held[k] = granted(t, a, size)
		for i := range old {
			old[i] = math.MaxUint64
		}
		has(t, held[k], make([]uint64, size))
		copy(held[k].W, fill(k+100))
	}
	for k, b := range held {
		has(t, b, fill(k+100))
	}
}

// P6.1: every word of a buffer is its own, and has all its bits.
func TestEveryWord(t *testing.T) {
	a := New(api.MostRoom)
	b := granted(t, a, api.MostRoom)
	for i := range b.W {
		b.W[i] = 0x9e3779b97f4a7c15 * uint64(i+1)
	}
	granted(t, a, 0)
	for i, x := range b.W {
		if x != 0x9e3779b97f4a7c15*uint64(i+1) {
			t.Fatalf("the word %d: %x", i, x)
		}
	}
}

// P6.1: a nil arena refuses for want of room, whatever is asked, releases nothing, and is 0.
func TestNil(t *testing.T) {
	var a *Arena
	for _, n := range []int{math.MinInt, -1, 0, 1, api.MostRoom, math.MaxInt} {
		refuses(t, a, n, api.ErrRoom)
	}
	measures(t, a, 0, 0, 0)
	owner := New(5)
	b := granted(t, owner, 5)
	for _, other := range []*Buf{nil, {}, {W: make([]uint64, 3)}, b} {
		keeps(t, a, other)
	}
	measures(t, a, 0, 0, 0)
	release(t, owner, b)
}

// R1: an arena that New hasn't made has no room, and panics neither.
func TestZeroArena(t *testing.T) {
	a := &Arena{}
	keeps(t, a, nil)
	keeps(t, a, &Buf{})
	measures(t, a, 0, 0, 0)
	refuses(t, a, 1, api.ErrRoom)
	refuses(t, a, -1, api.ErrArg)
	b := granted(t, a, 0)
	measures(t, a, 0, 0, 0)
	release(t, a, b)
	keeps(t, a, b)
}

// plain is an arena as the chapter tells of it: the grants that there were, how many words
// each one has, and whether it stands.
type plain struct {
	room, peak int
	bufs       []*Buf
	words      []int
	stands     []bool
}

// used is the sum of the grants that stand.
func (p *plain) used() int {
	sum := 0
	for i, n := range p.words {
		if p.stands[i] {
			sum += n
		}
	}
	return sum
}

// grant asks the arena for n words, and holds its answer against the chapter.
func (p *plain) grant(t *testing.T, a *Arena, n int) {
	t.Helper()
	switch {
	case n < 0:
		refuses(t, a, n, api.ErrArg)
		return
	case p.used()+n > p.room:
		refuses(t, a, n, api.ErrRoom)
		return
	}
	b := granted(t, a, n)
	if slices.Contains(p.bufs, b) {
		t.Fatal("a grant was answered again")
	}
	p.bufs, p.words, p.stands = append(p.bufs, b), append(p.words, n), append(p.stands, true)
	for i := range b.W {
		b.W[i] = uint64(len(p.bufs))
	}
	p.peak = max(p.peak, p.used())
}

// release asks the arena to release the grant i, and holds its answer against the chapter.
func (p *plain) release(t *testing.T, a *Arena, i int) {
	t.Helper()
	if i >= len(p.bufs) || !p.stands[i] {
		if i < len(p.bufs) {
			keeps(t, a, p.bufs[i])
		}
		return
	}
	release(t, a, p.bufs[i])
	p.stands[i] = false
}

// check wants that the arena, and each grant, is as the chapter tells.
func (p *plain) check(t *testing.T, a *Arena) {
	t.Helper()
	measures(t, a, p.room, p.used(), p.peak)
	if p.peak > p.room {
		t.Fatalf("peak %d of %d", p.peak, p.room)
	}
	for i, b := range p.bufs {
		n := 0
		if p.stands[i] {
			n = p.words[i]
		}
		has(t, b, slices.Repeat([]uint64{uint64(i + 1)}, n))
	}
}

// P6.1, P6.2: all runs of five steps, of eight kinds each, in rooms to 4.
func TestAllShortRuns(t *testing.T) {
	const steps, kinds = 5, 8
	for room := range 5 {
		for run := range 1 << (3 * steps) {
			a, p := New(room), &plain{room: room}
			for k := range steps {
				if kind := run >> (3 * k) % kinds; kind < 5 {
					p.grant(t, a, kind-1)
				} else {
					p.release(t, a, kind-5)
				}
				p.check(t, a)
			}
		}
	}
}

// P6.1, P6.2: long runs, in rooms of many sizes; when all is released all room is left.
func TestLongRuns(t *testing.T) {
	for _, room := range []int{1, 10, 100, 1000} {
		for seed := range 20 {
			a, p := New(room), &plain{room: room}
			x := uint64(seed)
			for range 200 {
				x = x*6364136223846793005 + 1442695040888963407
				n := int(x >> 40)
				if x>>33%2 == 0 {
					p.grant(t, a, n%(room/2+4)-1)
				} else {
					p.release(t, a, n%(len(p.bufs)+1))
				}
				p.check(t, a)
			}
			for i := range p.bufs {
				p.release(t, a, i)
			}
			p.check(t, a)
			measures(t, a, room, 0, p.peak)
			granted(t, a, room)
		}
	}
}

// P6.1: many grants stand at one time, and are released in any order.
func TestManyGrants(t *testing.T) {
	const grants, stride = 10007, 4001 // both prime, so that each grant has its turn
	a := New(3 * grants)
	held := make([]*Buf, grants)
	for i := range held {
		held[i] = granted(t, a, 3)
		measures(t, a, 3*grants, 3*(i+1), 3*(i+1))
	}
	refuses(t, a, 1, api.ErrRoom)
	for k := range held {
		release(t, a, held[k*stride%grants])
		measures(t, a, 3*grants, 3*(grants-k-1), 3*grants)
	}
	for _, b := range held {
		keeps(t, a, b)
	}
	granted(t, a, 3*grants)
}
