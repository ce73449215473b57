package seal

import (
	"encoding/binary"
	"hash/crc32"
	"math"
	"slices"
	"testing"

	"abutment/api"
)

const most = math.MaxUint64

// known are blocks with their last words: the chapter's example, and others reckoned by
// another program.
var known = []struct {
	size, address int
	tag           uint64
	payload       []uint64
	last          uint64
}{
	{8, 0, 0, nil, 0x1_a1aa2ac3},
	{8, 1, 0, nil, 0x1_6d002a5d},
	{8, 0, 1, nil, 0x1_208f4fe4},
	{8, 5, 2, []uint64{1, 2, 3}, 0x4_07870f38},
	{8, 0, 0, []uint64{0}, 0x2_88629e31},
	{8, 0, 0, []uint64{0, 0, 0, 0, 0, 0}, 0x7_f23b4327},
	{8, math.MaxInt64, most, []uint64{most, most, most, most, most, most}, 0x7_ed147c4e},
	{9, 999999, 3, []uint64{0x3837363534333231}, 0x2_16f2e705},
	{256, 7, 5, nil, 0x1_18e0eab6},
	{256, 21, 1 << 62, rising(254), 0xff_96323799},
}

// rising are the words 1 to n.
func rising(n int) []uint64 {
	l := make([]uint64, n)
	for i := range l {
		l[i] = uint64(i) + 1
	}
	return l
}

// mixed are n words of all sizes, 0 and the greatest too.
func mixed(n int) []uint64 {
	l := make([]uint64, n)
	x := uint64(0x9e3779b97f4a7c15)
	for i := range l {
		x ^= x << 13
		x ^= x >> 7
		x ^= x << 17
		switch i % 7 {
		case 3:
			l[i] = 0
		case 5:
			l[i] = most
		default:
			l[i] = x >> (i % 64)
		}
	}
	return l
}

// sumOf is the sum of l's words, as the library reckons it.
func sumOf(l ...uint64) uint64 {
	var b []byte
	for _, x := range l {
		b = binary.LittleEndian.AppendUint64(b, x)
	}
	return uint64(crc32.ChecksumIEEE(b))
}

// signed is the block of the words of ahead, and a last one with that number, whose sum is
// right at the address, whether such a block is sealed or not.
func signed(ahead []uint64, number uint64, address int) []uint64 {
	sum := sumOf(slices.Concat(ahead, []uint64{number, uint64(address)})...)
	return slices.Concat(ahead, []uint64{number<<32 | sum})
}

// written is the sealed block, put together as the chapter's words tell it.
func written(size, address int, tag uint64, payload []uint64) []uint64 {
	zeros := make([]uint64, size-2-len(payload))
	ahead := slices.Concat(payload, zeros, []uint64{tag})
	return signed(ahead, uint64(len(payload))+1, address)
}

// put answers the block that Put makes of these, which it has to.
func put(t *testing.T, size, address int, tag uint64, payload []uint64) []uint64 {
	t.Helper()
	block, e := Put(size, address, tag, payload)
	if e != api.OK || len(block) != size {
		t.Fatalf("Put(%d, %d, %d, %d words): %d words, error %d", size, address, tag, len(payload), len(block), e)
	}
	return block
}

// gets wants that Get tells this payload and this tag of the block.
func gets(t *testing.T, block []uint64, address int, payload []uint64, tag uint64) {
	t.Helper()
	l, got, e := Get(block, address)
	if e != api.OK || got != tag || !slices.Equal(l, payload) {
		t.Fatalf("Get(%x, %d): %x, %d, error %d, not %x, %d", block, address, l, got, e, payload, tag)
	}
}

// refuses wants that Get answers the error e of the block, and nothing beside it.
func refuses(t *testing.T, block []uint64, address int, e api.Errno) {
	t.Helper()
	l, tag, got := Get(block, address)
	if got != e || len(l) != 0 || tag != 0 {
		t.Fatalf("Get(%x, %d): %x, %d, error %d, not %d", block, address, l, tag, got, e)
	}
}

// sizes are those of blocks: the least, the greatest, and some between them.
func sizes() []int {
	return []int{api.LeastBlock, 9, 10, 16, 63, 64, 65, 128, 255, api.MostBlock}
}

// addresses are some from the least to the greatest, devices' and above.
func addresses() []int {
	return []int{0, 1, 2, 255, 256, api.MostBlocks - 1, api.MostBlocks, 1<<32 - 1, 1 << 32, 1<<62 + 5, math.MaxInt64}
}

// tags are some of all sizes.
func tags() []uint64 {
	return []uint64{0, 1, 5, 1 << 31, 1 << 32, 1 << 62, 1 << 63, most}
}

// P8.1: known blocks, word for word.
func TestPutOfKnownBlocks(t *testing.T) {
	for _, c := range known {
		want := make([]uint64, c.size)
		copy(want, c.payload)
		want[c.size-2], want[c.size-1] = c.tag, c.last
		if got := put(t, c.size, c.address, c.tag, c.payload); !slices.Equal(got, want) {
			t.Errorf("Put(%d, %d, %d, %x): %x, not %x", c.size, c.address, c.tag, c.payload, got, want)
		}
		gets(t, want, c.address, c.payload, c.tag)
	}
}

// P8.1, the chapter's example: without a payload the last word's high half is 1.
func TestExample(t *testing.T) {
	for _, none := range [][]uint64{nil, {}} {
		block := put(t, 8, 3, 9, none)
		if high := block[7] >> 32; high != 1 {
			t.Errorf("the high half is %d", high)
		}
		if !slices.Equal(block[:7], []uint64{0, 0, 0, 0, 0, 0, 9}) {
			t.Errorf("ahead of it stand %x", block[:7])
		}
		gets(t, block, 3, nil, 9)
	}
}

// P8.1, P8.2: of all sizes and all payloads that fit, the block is as it is told, and what is
// put is got.
func TestAllSizes(t *testing.T) {
	words := mixed(api.MostBlock)
	for size := api.LeastBlock; size <= api.MostBlock; size++ {
		lengths := []int{0, 1, 2, size / 2, size - 4, size - 3, size - 2}
		if size <= 16 {
			lengths = nil
			for n := range size - 1 {
				lengths = append(lengths, n)
			}
		}
		for i, n := range lengths {
			address, tag := addresses()[(size+i)%len(addresses())], tags()[(size+i)%len(tags())]
			block := put(t, size, address, tag, words[:n])
			if want := written(size, address, tag, words[:n]); !slices.Equal(block, want) {
				t.Fatalf("Put(%d, %d, %d, %d words): %x, not %x", size, address, tag, n, block, want)
			}
			gets(t, block, address, words[:n], tag)
		}
	}
}

// P8.1, P8.2: each address and each tag, together.
func TestAllAddressesAndTags(t *testing.T) {
	for _, address := range addresses() {
		for _, tag := range tags() {
			for _, payload := range [][]uint64{nil, {0}, {tag}, {most, 0, 1, 0}, mixed(6)} {
				block := put(t, 8, address, tag, payload)
				if want := written(8, address, tag, payload); !slices.Equal(block, want) {
					t.Fatalf("Put(8, %d, %d, %x): %x, not %x", address, tag, payload, block, want)
				}
				gets(t, block, address, payload, tag)
			}
		}
	}
}

// P8.2: zeros at a payload's end are the payload's, and are told apart from those behind it.
func TestZerosOfThePayload(t *testing.T) {
	for _, size := range sizes() {
		var seen [][]uint64
		for n := range size - 1 {
			payload := make([]uint64, n)
			if n > 0 {
				payload[0] = 7
			}
			block := put(t, size, 1, 2, payload)
			gets(t, block, 1, payload, 2)
			seen = append(seen, block)
		}
		for i := range seen[1:] {
			if slices.Equal(seen[i], seen[i+1]) {
				t.Fatalf("payloads of %d and of one word more are one block of %d words", i, size)
			}
		}
	}
}

// P8.1, R3: Put refuses sizes that no block has, addresses below 0, payloads that are too long.
func TestPutOfWrongArguments(t *testing.T) {
	wants := func(size, address int, payload []uint64) {
		t.Helper()
		if block, e := Put(size, address, 1, payload); e != api.ErrArg || len(block) != 0 {
			t.Errorf("Put(%d, %d, 1, %d words): %x, error %d", size, address, len(payload), block, e)
		}
	}
	for _, size := range []int{math.MinInt, -256, -8, -1, 0, 1, 2, 3, 7, 257, 258, 512, math.MaxInt - 1, math.MaxInt} {
		for _, address := range []int{0, 1, -1} {
			wants(size, address, nil)
			wants(size, address, rising(6))
			wants(size, address, rising(1000))
		}
	}
	for _, size := range sizes() {
		for _, address := range []int{-1, -2, -api.MostBlocks, math.MinInt + 1, math.MinInt} {
			wants(size, address, nil)
			wants(size, address, rising(size-2))
			wants(size, address, rising(size-1))
		}
		for _, n := range []int{size - 1, size, size + 1, 2 * size, 1000} {
			wants(size, 0, rising(n))
			wants(size, 0, make([]uint64, n))
		}
	}
}

// P8.1, R2, R3: Get refuses what hasn't a block's words, and addresses below 0, ahead of
// asking whether the block is sealed.
func TestGetOfWrongArguments(t *testing.T) {
	for _, n := range []int{0, 1, 2, 3, 6, 7, 257, 258, 512, 1000} {
		for _, address := range []int{0, 1, -1, math.MaxInt} {
			refuses(t, make([]uint64, n), address, api.ErrArg)
			refuses(t, mixed(n), address, api.ErrArg)
			if n > 2 {
				refuses(t, written(n, max(address, 0), 3, nil), address, api.ErrArg)
			}
		}
	}
	refuses(t, nil, 0, api.ErrArg)
	for _, size := range sizes() {
		for _, address := range []int{-1, -2, math.MinInt + 1, math.MinInt} {
			refuses(t, put(t, size, 0, 3, rising(4)), address, api.ErrArg)
			refuses(t, signed(make([]uint64, size-1), 1, address), address, api.ErrArg)
			refuses(t, make([]uint64, size), address, api.ErrArg)
		}
	}
}

// P8.2: a block of zeros is none, at no address.
func TestZerosAreNone(t *testing.T) {
	for size := api.LeastBlock; size <= api.MostBlock; size++ {
		refuses(t, make([]uint64, size), size, api.ErrFault)
	}
	for _, address := range addresses() {
		refuses(t, make([]uint64, 8), address, api.ErrFault)
	}
}

// P8.1: a block is sealed at its own address alone. (Those held against each other differ in
// one half, so that their sums can't be alike.)
func TestOtherAddresses(t *testing.T) {
	for _, size := range sizes() {
		for _, address := range []int{0, 1, 77, api.MostBlocks - 1, math.MaxInt64} {
			block := put(t, size, address, 4, rising(5))
			for i := range 63 {
				refuses(t, block, address^1<<i, api.ErrFault)
			}
			if address < api.MostBlocks {
				for other := range 500 {
					if other != address {
						refuses(t, block, other, api.ErrFault)
					}
				}
			}
			gets(t, block, address, rising(5), 4)
		}
	}
}

// halves are what is laid over half a word, to make it another one.
func halves() []uint64 {
	l := []uint64{3, 0xffff, 0x9e3779b9, 0xedb88320, math.MaxUint32 - 1, math.MaxUint32}
	for i := range 32 {
		l = append(l, 1<<i)
	}
	return l
}

// P8.2: no block of which a half of one word is another one is sealed, wherever that stands:
// in the payload, the zeros, the tag, the number, or the sum.
func TestHalvesThatAreOthers(t *testing.T) {
	for _, size := range []int{8, 9, 64, 256} {
		for _, payload := range [][]uint64{nil, {0}, rising(5), mixed(size - 2)} {
			block := put(t, size, 6, 11, payload)
			for i := range block {
				for _, half := range halves() {
					for _, diff := range []uint64{half, half << 32} {
						block[i] ^= diff
						refuses(t, block, 6, api.ErrFault)
						block[i] ^= diff
					}
				}
			}
			gets(t, block, 6, payload, 11)
		}
	}
}

// P8.2: a half that becomes 0, or whatever else stands in another place of the block.
func TestHalvesFromElsewhere(t *testing.T) {
	const low = math.MaxUint32
	block := put(t, 16, 2, 1<<32|3, mixed(9))
	others := append([]uint64{0, most}, block...)
	for i, was := range block {
		for _, x := range others {
			for _, half := range []uint64{x & low, x >> 32} {
				for _, changed := range []uint64{was&^low | half, was&low | half<<32} {
					if changed != was {
						block[i] = changed
						refuses(t, block, 2, api.ErrFault)
						block[i] = was
					}
				}
			}
		}
	}
}

// P8.1: words that aren't 0 between the payload and the tag make a block none, also where the
// sum is right.
func TestZerosThatAreNot(t *testing.T) {
	for _, size := range []int{8, 9, 64, 256} {
		for _, n := range []int{0, 1, 3, size - 4, size - 3} {
			ahead := written(size, 4, 9, rising(n))[:size-1]
			gets(t, signed(ahead, uint64(n)+1, 4), 4, rising(n), 9)
			for i := n; i < size-2; i++ {
				for _, x := range []uint64{1, 1 << 32, 1 << 63, most} {
					ahead[i] = x
					refuses(t, signed(ahead, uint64(n)+1, 4), 4, api.ErrFault)
				}
				ahead[i] = 0
			}
		}
	}
}

// P8.1: a payload that there can't be makes a block none, also where the sum is right.
func TestNumbersThatMayNotBe(t *testing.T) {
	for _, size := range sizes() {
		for _, ahead := range [][]uint64{make([]uint64, size-1), mixed(size - 1)} {
			for _, number := range []uint64{0, uint64(size), uint64(size) + 1, uint64(size) + 2, 256, 257, 258, 1 << 16, 1 << 31, 1<<32 - 2, 1<<32 - 1} {
				if number > 0 && number < uint64(size) {
					continue
				}
				refuses(t, signed(ahead, number, 3), 3, api.ErrFault)
			}
			gets(t, signed(ahead, uint64(size)-1, 3), 3, ahead[:size-2], ahead[size-2])
		}
	}
}

// P8.1: the sum is that of the words ahead, the number and the address, in this order, and of
// nothing else.
func TestOtherSums(t *testing.T) {
	ahead := []uint64{5, 6, 7, 0, 0, 0, 8}
	const number, address = 4, 2
	with := func(l ...uint64) []uint64 { return slices.Concat(ahead, l) }
	right := sumOf(with(number, address)...)
	for i, sum := range []uint64{
		0,
		1,
		math.MaxUint32,
		right ^ math.MaxUint32,
		right<<16&math.MaxUint32 | right>>16,
		sumOf(ahead...),
		sumOf(with(number)...),
		sumOf(with(address)...),
		sumOf(with(address, number)...),
		sumOf(with(number-1, address)...),
		sumOf(with(number<<32, address)...),
		sumOf(with(number, address+1)...),
		sumOf(with(number, address, 0)...),
		sumOf(slices.Concat(ahead[:6], []uint64{number, address})...),
		sumOf(slices.Concat(ahead[:3], []uint64{8, number, address})...),
		sumOf(slices.Concat([]uint64{number, address}, ahead)...),
	} {
		if sum == right {
			t.Errorf("the sum %d is the right one", i)
		}
		refuses(t, with(number<<32|sum), address, api.ErrFault)
	}
	refuses(t, with(right<<32|number), address, api.ErrFault)
	gets(t, with(number<<32|right), address, ahead[:3], 8)
}

// P8.2: words that stand in another order, or another block's, are no block.
func TestTornBlocks(t *testing.T) {
	a, b := put(t, 12, 1, 5, rising(10)), put(t, 12, 1, 6, mixed(10))
	for i := 1; i < len(a); i++ {
		refuses(t, slices.Concat(a[:i], b[i:]), 1, api.ErrFault)
		refuses(t, slices.Concat(b[:i], a[i:]), 1, api.ErrFault)
		refuses(t, slices.Concat(a[:i], make([]uint64, 12-i)), 1, api.ErrFault)
		refuses(t, slices.Concat(a[i:], a[:i]), 1, api.ErrFault)
	}
	slices.Reverse(a)
	refuses(t, a, 1, api.ErrFault)
}

// P8.1: a piece of a block is none, nor is a block with words more.
func TestOtherSizes(t *testing.T) {
	block := put(t, 64, 1, 5, rising(3))
	for n := range block {
		e := api.ErrFault
		if n < api.LeastBlock {
			e = api.ErrArg
		}
		refuses(t, block[:n], 1, e)
	}
	refuses(t, append(slices.Clone(block), 0), 1, api.ErrFault)
	refuses(t, append([]uint64{0}, block...), 1, api.ErrFault)
	for n := 1; n <= 64-api.LeastBlock; n++ {
		refuses(t, block[n:], 1, api.ErrFault)
	}
}

// R5: what is handed in is left as it is, its spare room too.
func TestArgumentsAreLeft(t *testing.T) {
	room := rising(20)
	put(t, 8, 1, 2, room[3:7:20])
	put(t, 16, 1, 2, room[3:7])
	Put(8, 1, 2, room[3:12])
	if !slices.Equal(room, rising(20)) {
		t.Errorf("Put changed its argument: %v", room)
	}
	block := put(t, 8, 1, 2, rising(3))
	room = append(slices.Clone(block), rising(9)...)
	before := slices.Clone(room)
	gets(t, room[:8], 1, rising(3), 2)
	refuses(t, room[:8], 5, api.ErrFault)
	refuses(t, room[1:9], 1, api.ErrFault)
	if !slices.Equal(room, before) {
		t.Errorf("Get changed its argument: %v", room)
	}
}

// fill makes all words of l and of its spare room x.
func fill(l []uint64, x uint64) {
	l = l[:cap(l)]
	for i := range l {
		l[i] = x
	}
}

// R5: what is answered is new memory, and what is handed in isn't kept.
func TestAnswersAreNew(t *testing.T) {
	payload := rising(6)
	block := put(t, 8, 1, 2, payload)
	again := put(t, 8, 1, 2, payload)
	fill(block, 77)
	if !slices.Equal(payload, rising(6)) {
		t.Errorf("the block shares the payload's memory: %v", payload)
	}
	gets(t, again, 1, rising(6), 2)
	fill(payload, 78)
	gets(t, again, 1, rising(6), 2)
	one, _, _ := Get(again, 1)
	other, _, _ := Get(again, 1)
	fill(one, 79)
	gets(t, again, 1, rising(6), 2)
	fill(again, 80)
	if !slices.Equal(other, rising(6)) {
		t.Errorf("the payload shares memory: %v", other)
	}
	part := put(t, 8, 1, 2, rising(2))
	got, _, _ := Get(part, 1)
	fill(got, 81)
	gets(t, part, 1, rising(2), 2)
}
