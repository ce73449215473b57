package crc

import (
	"hash/crc32"
	"math"
	"math/bits"
	"slices"
	"testing"
)

const most = math.MaxUint64

// known are words with their sums: the chapter's examples, and others reckoned by another program.
var known = []struct {
	l   []uint64
	sum uint32
}{
	{nil, 0},
	{[]uint64{}, 0},
	{[]uint64{0x3837363534333231}, 0x9ae0daaf},
	{[]uint64{0x3837363534333231, 0x3837363534333231}, 0x6bcc57b7},
	{[]uint64{0}, 0x6522df69},
	{[]uint64{0, 0}, 0xecbb4b55},
	{[]uint64{most}, 0x2144df1c},
	{[]uint64{most, most}, 0x3fb3c61a},
	{[]uint64{1}, 0xa988dff7},
	{[]uint64{1 << 63}, 0x889a5c49},
	{[]uint64{0, 1}, 0x20114bcb},
	{[]uint64{1, 0}, 0x42d3dac4},
	{[]uint64{1, 2, 3}, 0x2bcb8d87},
	{[]uint64{0x0123456789abcdef}, 0x443be247},
}

// words are n of them, of all sizes, the least and the greatest too.
func words(n int) []uint64 {
	l := make([]uint64, n)
	x := uint64(0x9e3779b97f4a7c15)
	for i := range l {
		x ^= x << 13
		x ^= x >> 7
		x ^= x << 17
		switch i % 7 {
		case 3:
			l[i] = 0
		case 5:
			l[i] = most
		default:
			l[i] = x >> (i % 64)
		}
	}
	return l
}

// inBytes are the words' bytes, the least significant one of each first.
func inBytes(l []uint64) []byte {
	var b []byte
	for _, x := range l {
		for i := range 8 {
			b = append(b, byte(x>>(8*i)))
		}
	}
	return b
}

// P2.1: the sums of known words.
func TestSumOfKnownWords(t *testing.T) {
	for _, c := range known {
		if sum := Sum(c.l); sum != c.sum {
			t.Errorf("Sum(%x): %08x, not %08x", c.l, sum, c.sum)
		}
	}
}

// P2.1: the sum is the CRC-32 of the words' bytes, of however many words.
func TestSumIsThatOfTheBytes(t *testing.T) {
	whole := words(300)
	for n := range whole {
		for _, l := range [][]uint64{whole[:n], whole[len(whole)-n:]} {
			if sum, want := Sum(l), crc32.ChecksumIEEE(inBytes(l)); sum != want {
				t.Fatalf("Sum of %d words: %08x, not %08x", n, sum, want)
			}
		}
	}
}

// P2.1: each bit of a word counts, at its own place.
func TestSumOfSingleBits(t *testing.T) {
	for i := range 64 {
		for _, x := range []uint64{1 << i, most << i, most >> i, most ^ 1<<i} {
			for _, l := range [][]uint64{{x}, {x, 0}, {0, x}, {most, x, most}} {
				if sum, want := Sum(l), crc32.ChecksumIEEE(inBytes(l)); sum != want {
					t.Errorf("Sum(%x): %08x, not %08x", l, sum, want)
				}
			}
		}
	}
}

// P2.1: Next is the sum of one word more, from no words on.
func TestNextIsOneWordMore(t *testing.T) {
	for _, c := range known {
		if len(c.l) == 0 {
			continue
		}
		last := len(c.l) - 1
		if sum := Next(Sum(c.l[:last]), c.l[last]); sum != c.sum {
			t.Errorf("Next of %x, %x: %08x, not %08x", c.l[:last], c.l[last], sum, c.sum)
		}
	}
	l := words(300)
	var sum uint32
	for i, x := range l {
		sum = Next(sum, x)
		if want := crc32.ChecksumIEEE(inBytes(l[:i+1])); sum != want || Sum(l[:i+1]) != want {
			t.Fatalf("Next at the word %d: %08x, not %08x", i, sum, want)
		}
	}
}

// P2.1: each number of 32 bits is some words' sum, and Next goes on from it.
func TestNextOfAnySum(t *testing.T) {
	sums := []uint32{0, 1, polynomial, ^uint32(polynomial), 1 << 31, math.MaxUint32}
	for i := range 32 {
		sums = append(sums, 1<<i, math.MaxUint32<<i, 0x9e3779b9>>i)
	}
	for _, sum := range sums {
		for _, x := range []uint64{0, 1, 255, 256, 1 << 32, 1 << 63, 0x3837363534333231, most - 1, most} {
			got, want := Next(sum, x), crc32.Update(sum, crc32.IEEETable, inBytes([]uint64{x}))
			if got != want {
				t.Errorf("Next(%08x, %x): %08x, not %08x", sum, x, got, want)
			}
		}
	}
}

// P2.1, with R5: a list is left as it is, its spare room too, and its sum hangs on nothing else.
func TestSumLeavesItsArgument(t *testing.T) {
	whole := words(20)
	before := slices.Clone(whole)
	first := Sum(whole[:10])
	if !slices.Equal(whole, before) {
		t.Error("Sum changed its argument")
	}
	Sum(whole)
	Next(first, most)
	if again := Sum(whole[:10]); again != first {
		t.Errorf("Sum: %08x, and then %08x", first, again)
	}
}

// differences are words of 32 bits, none of them 0.
func differences() []uint32 {
	l := []uint32{polynomial, bits.Reverse32(polynomial), 0x04c11db7, math.MaxUint32}
	for i := range 32 {
		l = append(l, math.MaxUint32<<i, math.MaxUint32>>i, 0x9e3779b9>>i)
		for k := range i + 1 {
			l = append(l, 1<<i|1<<k)
		}
	}
	for x := uint32(1); x < 1<<10; x++ {
		l = append(l, x, x<<11, x<<22)
	}
	return slices.DeleteFunc(l, func(x uint32) bool { return x == 0 })
}

// lay lays the bits of diff over l, from the byte at on, which may reach into the next word.
func lay(l []uint64, at int, diff uint32) []uint64 {
	l = slices.Clone(l)
	for i := range 4 {
		c := uint64(diff >> (8 * i) & 255)
		l[(at+i)/8] ^= c << (8 * ((at + i) % 8))
	}
	return l
}

// bases are lists to be changed, of some lengths, equal words and others.
func bases() [][]uint64 {
	return [][]uint64{
		{0}, {most}, {0x3837363534333231},
		{0, 0}, {most, most}, words(3), words(8),
	}
}

// P2.2: lists that differ in one half of one word, and wherever else four bytes stand side by side.
func TestSumsOfWordsThatDiffer(t *testing.T) {
	diffs := differences()
	for _, l := range bases() {
		sum := Sum(l)
		for at := range 8*len(l) - 3 {
			for _, diff := range diffs {
				if m := lay(l, at, diff); Sum(m) == sum {
					t.Fatalf("%x and %x: the sum %08x", l, m, sum)
				}
			}
		}
	}
}

// P2.2: Next tells words apart that differ in one half, behind any sum, and sums apart by one word.
func TestNextOfWhatDiffers(t *testing.T) {
	for _, sum := range []uint32{0, 1, 0x9ae0daaf, math.MaxUint32} {
		for _, x := range []uint64{0, 0x3837363534333231, most} {
			next := Next(sum, x)
			for _, diff := range differences() {
				low, high := x^uint64(diff), x^uint64(diff)<<32
				if Next(sum, low) == next || Next(sum, high) == next || Next(sum^diff, x) == next {
					t.Fatalf("Next(%08x, %x): %08x also with %08x laid over", sum, x, next, diff)
				}
			}
		}
	}
}

// P2.2: what the sum changes by is made of what each changed bit changes it by. So no two lists
// of as many words that differ within four bytes have one sum, if those 32 bits' changes are
// independent; and that can be told of all 2^32 at once.
func TestNoFourBytesAreLost(t *testing.T) {
	for _, l := range bases() {
		sum := Sum(l)
		for at := range 8*len(l) - 3 {
			var changes [32]uint32
			for i := range changes {
				changes[i] = Sum(lay(l, at, 1<<i)) ^ sum
			}
			if n := independent(changes); n != 32 {
				t.Errorf("of %d words, at the byte %d: just %d of 32 changes are independent", len(l), at, n)
			}
			for _, diff := range differences()[:200] {
				var want uint32
				for i, change := range changes {
					want ^= change * (diff >> i & 1)
				}
				if got := Sum(lay(l, at, diff)) ^ sum; got != want {
					t.Fatalf("%08x over %x at %d: the sum changes by %08x, not %08x", diff, l, at, got, want)
				}
			}
		}
	}
}

// independent tells how many of l aren't made of others by exclusive or.
func independent(l [32]uint32) int {
	var led [32]uint32 // led[i] has i as its highest bit, or is 0
	n := 0
	for _, x := range l {
		for x != 0 {
			top := bits.Len32(x) - 1
			if led[top] == 0 {
				led[top] = x
				n++
				break
			}
			x ^= led[top]
		}
	}
	return n
}
