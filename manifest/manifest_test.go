package manifest

import (
	"encoding/binary"
	"hash/crc32"
	"math"
	"slices"
	"strings"
	"testing"

	"abutment/api"
	"abutment/device"
)

const top = 1 << 62

// made answers a device, which there has to be.
func made(t *testing.T, size, blocks int) *device.Device {
	t.Helper()
	d, e := device.New(size, blocks)
	if e != api.OK {
		t.Fatalf("device.New(%d, %d): error %d", size, blocks, e)
	}
	return d
}

// one answers a device of just two slots.
func one(t *testing.T, size int) *device.Device {
	t.Helper()
	return made(t, size, 2*Slot(size))
}

// save wants that Save answers e.
func save(t *testing.T, d *device.Device, generation uint64, l []Entry, e api.Errno) {
	t.Helper()
	if got := Save(d, generation, l); got != e {
		t.Fatalf("Save(%d, %v): error %d, not %d", generation, l, got, e)
	}
}

// tells wants that Load tells these entries, and these generations.
func tells(t *testing.T, d *device.Device, l []Entry, generation, next uint64) {
	t.Helper()
	got, g, n, e := Load(d)
	if e != api.OK || !slices.Equal(got, l) || g != generation || n != next {
		t.Fatalf("Load: %v, %d, %d, error %d, not %v, %d, %d", got, g, n, e, l, generation, next)
	}
}

// refuses wants that Load answers e, and nothing beside it.
func refuses(t *testing.T, d *device.Device, e api.Errno) {
	t.Helper()
	if l, g, n, got := Load(d); len(l) != 0 || g != 0 || n != 0 || got != e {
		t.Fatalf("Load: %v, %d, %d, error %d, not %d", l, g, n, got, e)
	}
}

// read answers a block's words.
func read(t *testing.T, d *device.Device, i int) []uint64 {
	t.Helper()
	l, e := d.Read(i)
	if e != api.OK {
		t.Fatalf("Read(%d): error %d", i, e)
	}
	return l
}

// write writes a block's words.
func write(t *testing.T, d *device.Device, i int, l []uint64) {
	t.Helper()
	if e := d.Write(i, l); e != api.OK {
		t.Fatalf("Write(%d): error %d", i, e)
	}
}

// all answers the words of all blocks of d.
func all(t *testing.T, d *device.Device) [][]uint64 {
	t.Helper()
	l := make([][]uint64, d.Blocks())
	for i := range l {
		l[i] = read(t, d, i)
	}
	return l
}

// sealed is a sealed block, put together as chapter 8 tells it.
func sealed(size, at int, tag uint64, payload []uint64) []uint64 {
	block := append(slices.Clone(payload), make([]uint64, size-2-len(payload))...)
	block = append(block, tag)
	number := uint64(len(payload)) + 1
	var b []byte
	for _, x := range append(slices.Clone(block), number, uint64(at)) {
		b = binary.LittleEndian.AppendUint64(b, x)
	}
	return append(block, number<<32|uint64(crc32.ChecksumIEEE(b)))
}

// nameWord is a name's word, put together byte by byte.
func nameWord(name string) uint64 {
	var b [8]byte
	copy(b[:], name)
	return binary.BigEndian.Uint64(b[:])
}

// plain are a manifest's words, as the chapter tells them.
func plain(generation uint64, l []Entry) []uint64 {
	words := []uint64{generation, uint64(len(l))}
	for _, x := range l {
		words = append(words, nameWord(x.Name))
		for _, n := range []int{x.First, x.Blocks, x.Width, x.Count} {
			words = append(words, uint64(n))
		}
	}
	return words
}

// lay writes words to the slot s, size - 2 in each block, sealed with the tag.
func lay(t *testing.T, d *device.Device, s int, tag uint64, words []uint64) {
	t.Helper()
	n := Slot(d.Size())
	for i := range n {
		share := words[:min(len(words), d.Size()-2)]
		words = words[len(share):]
		write(t, d, s*n+i, sealed(d.Size(), s*n+i, tag, share))
	}
	if len(words) > 0 {
		t.Fatalf("%d words are too many for a slot", len(words))
	}
}

// sizes are those of blocks: the least, the greatest, and some between them, where slots
// have several blocks, and where they have one.
func sizes() []int {
	return []int{api.LeastBlock, 9, 12, 13, 33, 34, 63, 64, 65, 66, 100, 255, api.MostBlock}
}

// few are entries of all kinds of names and of numbers of all sizes.
func few() []Entry {
	return []Entry{
		{"0", 0, 0, 0, 0},
		{"00", 1, 2, 3, 4},
		{"99999999", 1 << 40, 0, 1 << 39, 255},
		{"a", 0, 1 << 40, 256, 1 << 32},
		{"a0", 5, 5, 1 << 40, 1<<32 - 1},
		{"edges", 22, 100, 2, 1 << 40},
		{"zzzzzzzz", 7, 0, 5, 1<<40 - 1},
	}
}

// many are n entries.
func many(n int) []Entry {
	var l []Entry
	for i := range n {
		l = append(l, Entry{"f" + string([]byte{'a' + byte(i)}), i, 2 * i, 3 * i, 1000 * i})
	}
	return l
}

// with is l, with one entry changed.
func with(l []Entry, i int, change func(*Entry)) []Entry {
	l = slices.Clone(l)
	change(&l[i])
	return l
}

// unformed are lists of entries that aren't formed.
func unformed() [][]Entry {
	var lists [][]Entry
	for _, name := range []string{
		"", "A", "aB", "a b", " a", "a ", "-", "_", "a.b", "/", ":", "`", "{", "@", "[", "\x00", "a\x00", "a\x00b", "\x00a",
		"abcdefgh\x00", "abcdefghi", "123456789", strings.Repeat("z", 1000), "é", "aé", "\xff", "a\xff", "aaaaaaa\x80",
	} {
		lists = append(lists, []Entry{{Name: name}})
	}
	for _, n := range []int{-1, -2, -1 << 40, 1<<40 + 1, 1 << 41, 1 << 62, math.MaxInt, math.MinInt} {
		for i := range 3 {
			lists = append(lists,
				with(many(3), i, func(x *Entry) { x.First = n }),
				with(many(3), i, func(x *Entry) { x.Blocks = n }),
				with(many(3), i, func(x *Entry) { x.Width = n }),
				with(many(3), i, func(x *Entry) { x.Count = n }),
			)
		}
	}
	return append(lists,
		[]Entry{{Name: "a"}, {Name: "a"}},
		[]Entry{{Name: "b"}, {Name: "a"}},
		[]Entry{{Name: "aa"}, {Name: "a"}},
		[]Entry{{Name: "a"}, {Name: "9"}},
		[]Entry{{Name: "a"}, {Name: "c"}, {Name: "b"}},
		[]Entry{{Name: "a"}, {Name: "b"}, {Name: "b", First: 1}},
		[]Entry{{Name: "b"}, {Name: "c"}, {Name: "a"}},
		[]Entry{{Name: "a"}, {Name: "B"}, {Name: "c"}},
		[]Entry{{Name: "a"}, {}},
		[]Entry{{}, {Name: "a"}},
		many(api.MostFiles+1),
		many(26),
		slices.Repeat(many(1), 1000),
	)
}

// P9.1: names of 1 to 8 bytes that may be, and numbers from 0 to 2^40, are formed.
func TestFormed(t *testing.T) {
	lists := [][]Entry{nil, {}, few(), {{Name: "a"}, {Name: "aa"}, {Name: "ab"}, {Name: "b"}}, {{Name: "9"}, {Name: "a"}}}
	for n := range api.MostFiles + 1 {
		lists = append(lists, many(n))
	}
	for b := range 256 {
		name := string([]byte{'x', byte(b), 'y'})
		want := strings.Contains("abcdefghijklmnopqrstuvwxyz0123456789", string([]byte{byte(b)}))
		if got := Formed([]Entry{{Name: name}}); got != want {
			t.Errorf("Formed of the name %q: %v", name, got)
		}
	}
	for n := 1; n <= 8; n++ {
		lists = append(lists, []Entry{{Name: "a0zq9bcd"[:n]}}, []Entry{{Name: strings.Repeat("0", n)}})
	}
	for _, n := range []int{0, 1, 255, 1 << 32, 1<<40 - 1, 1 << 40} {
		lists = append(lists, []Entry{{"a", n, 0, 0, 0}}, []Entry{{"a", 0, n, 0, 0}}, []Entry{{"a", 0, 0, n, 0}},
			[]Entry{{"a", 0, 0, 0, n}}, []Entry{{"a", n, n, n, n}})
	}
	for _, l := range lists {
		if !Formed(l) {
			t.Errorf("not Formed: %v", l)
		}
	}
}

// P9.1: whatever else is not.
func TestNotFormed(t *testing.T) {
	for _, l := range unformed() {
		if Formed(l) {
			t.Errorf("Formed: %v", l)
		}
	}
}

// P9.1: a slot has the fewest blocks that have room for 62 words; there is none of sizes that
// no block has.
func TestSlot(t *testing.T) {
	for size, want := range map[int]int{8: 11, 9: 9, 10: 8, 12: 7, 13: 6, 33: 2, 63: 2, 64: 1, 65: 1, 256: 1} {
		if got := Slot(size); got != want {
			t.Errorf("Slot(%d): %d, not %d", size, got, want)
		}
	}
	for size := api.LeastBlock; size <= api.MostBlock; size++ {
		n := Slot(size)
		if n < 1 || n*(size-2) < 62 || (n-1)*(size-2) >= 62 {
			t.Errorf("Slot(%d): %d", size, n)
		}
	}
	for _, size := range []int{math.MinInt, math.MinInt + 1, -64, -8, -1, 0, 1, 2, 3, 7, 257, 258, 1 << 32, math.MaxInt} {
		if n := Slot(size); n != 0 {
			t.Errorf("Slot(%d): %d", size, n)
		}
	}
}

// known are manifests, and the blocks they have, which were reckoned by another program.
var known = []struct {
	size       int
	generation uint64
	entries    []Entry
	blocks     [][]uint64
}{
	{8, 1, []Entry{{"a", 1, 2, 3, 4}}, [][]uint64{
		{0x1, 0x1, 0x6100000000000000, 0x1, 0x2, 0x3, 0x1, 0x714266864},
		{0x4, 0x0, 0x0, 0x0, 0x0, 0x0, 0x1, 0x28b56aaca},
		{0x0, 0x0, 0x0, 0x0, 0x0, 0x0, 0x1, 0x1bb8a5a35},
		{0x0, 0x0, 0x0, 0x0, 0x0, 0x0, 0x1, 0x135055dd6},
		{0x0, 0x0, 0x0, 0x0, 0x0, 0x0, 0x1, 0x1f9af5d48},
		{0x0, 0x0, 0x0, 0x0, 0x0, 0x0, 0x1, 0x15c347ecf},
		{0x0, 0x0, 0x0, 0x0, 0x0, 0x0, 0x1, 0x1909e7e51},
		{0x0, 0x0, 0x0, 0x0, 0x0, 0x0, 0x1, 0x11e1179b2},
		{0x0, 0x0, 0x0, 0x0, 0x0, 0x0, 0x1, 0x1d2bb792c},
		{0x0, 0x0, 0x0, 0x0, 0x0, 0x0, 0x1, 0x1d87e7035},
		{0x0, 0x0, 0x0, 0x0, 0x0, 0x0, 0x1, 0x114d470ab},
	}},
	{8, top, []Entry{{"edges", 22, 100, 2, 1234567}, {"zz990a1z", 1 << 40, 0, 5, 1 << 40}}, [][]uint64{
		{0x4000000000000000, 0x2, 0x6564676573000000, 0x16, 0x64, 0x2, 0x4000000000000000, 0x7f83a9a18},
		{0x12d687, 0x7a7a39393061317a, 0x10000000000, 0x0, 0x5, 0x10000000000, 0x4000000000000000, 0x7b39a099d},
		{0x0, 0x0, 0x0, 0x0, 0x0, 0x0, 0x4000000000000000, 0x1bec9484a},
		{0x0, 0x0, 0x0, 0x0, 0x0, 0x0, 0x4000000000000000, 0x1726348d4},
		{0x0, 0x0, 0x0, 0x0, 0x0, 0x0, 0x4000000000000000, 0x178a641cd},
		{0x0, 0x0, 0x0, 0x0, 0x0, 0x0, 0x4000000000000000, 0x1b40c4153},
		{0x0, 0x0, 0x0, 0x0, 0x0, 0x0, 0x4000000000000000, 0x13a8346b0},
		{0x0, 0x0, 0x0, 0x0, 0x0, 0x0, 0x4000000000000000, 0x1f629462e},
		{0x0, 0x0, 0x0, 0x0, 0x0, 0x0, 0x4000000000000000, 0x12f095482},
		{0x0, 0x0, 0x0, 0x0, 0x0, 0x0, 0x4000000000000000, 0x1e3a3541c},
		{0x0, 0x0, 0x0, 0x0, 0x0, 0x0, 0x4000000000000000, 0x16d2c53ff},
	}},
	{64, 7, nil, [][]uint64{append([]uint64{7, 0}, append(make([]uint64, 60), 7, 0x36e4c27c9)...)}},
}

// P9.1, P9.2: known manifests, word for word, written and read.
func TestKnown(t *testing.T) {
	for _, c := range known {
		n := len(c.blocks)
		first := n * int(c.generation%2)
		d := made(t, c.size, 2*n+3)
		save(t, d, c.generation, c.entries, api.OK)
		hand := made(t, c.size, 2*n+3)
		for i, words := range c.blocks {
			if got := read(t, d, first+i); !slices.Equal(got, words) {
				t.Errorf("the block %d of %d: %x, not %x", first+i, c.generation, got, words)
			}
			write(t, hand, first+i, words)
		}
		tells(t, hand, c.entries, c.generation, c.generation+1)
		tells(t, d, c.entries, c.generation, c.generation+1)
	}
}

// P9.1: of all sizes and numbers of entries, the slot of the generation has just its blocks,
// no other block is written, and a Sync is done behind the last of them.
func TestSave(t *testing.T) {
	for _, size := range sizes() {
		n := Slot(size)
		for i, l := range [][]Entry{nil, {}, many(1), many(2), few(), many(api.MostFiles - 1), many(api.MostFiles)} {
			for _, generation := range []uint64{1, 2, 3, uint64(10 + i), 1 << 32, top - 1, top} {
				d := made(t, size, 2*n+5)
				want := made(t, size, 2*n+5)
				lay(t, want, int(generation%2), generation, plain(generation, l))
				save(t, d, generation, l, api.OK)
				if got := d.Acts(); got != n+1 {
					t.Fatalf("%d acts for %d blocks", got, n)
				}
				d = d.Crash(nil)
				if !slices.EqualFunc(all(t, d), all(t, want), slices.Equal[[]uint64]) {
					t.Fatalf("Save(%d, %v) of blocks of %d words writes others", generation, l, size)
				}
				tells(t, d, l, generation, generation+1)
			}
		}
	}
}

// P9.1: the blocks of a slot are written in order: a crash that keeps the first ones keeps
// just those at the slot's beginning.
func TestOrderOfWrites(t *testing.T) {
	for _, generation := range []uint64{1, 2} {
		first := 11 * int(generation%2)
		for k := range 12 {
			d := one(t, 8)
			d.SetFuse(11)
			save(t, d, generation, few(), api.ErrLost)
			d = d.Crash(slices.Repeat([]bool{true}, k))
			for i := range 22 {
				written := i >= first && i < first+k
				if got := read(t, d, i); (got[7] != 0) != written {
					t.Errorf("of %d, %d blocks kept, the block %d is %x", generation, k, i, got)
				}
			}
		}
	}
}

// P9.2, the examples: a new device, and a torn 2 beside a 1 that stands.
func TestExamples(t *testing.T) {
	for _, size := range sizes() {
		tells(t, one(t, size), nil, 0, 1)
	}
	d := one(t, 8)
	save(t, d, 1, few(), api.OK)
	d.SetFuse(5)
	save(t, d, 2, many(3), api.ErrLost)
	d = d.Crash([]bool{true, false, true})
	tells(t, d, few(), 1, 4)
	save(t, d, 4, many(2), api.OK)
	tells(t, d, many(2), 4, 5)
}

// P9.2: of two that stand it is the one with the greater generation, in whichever slot.
func TestTwoThatStand(t *testing.T) {
	for _, size := range sizes() {
		for _, pair := range [][2]uint64{{1, 2}, {2, 3}, {1, 1000}, {2, 1001}, {1 << 40, 1<<61 + 1}, {top - 1, top}, {1, top}, {2, top - 1}} {
			for _, order := range [][]uint64{{pair[0], pair[1]}, {pair[1], pair[0]}} {
				d := one(t, size)
				for _, generation := range order {
					save(t, d, generation, many(int(generation%7)), api.OK)
				}
				tells(t, d, many(int(pair[1]%7)), pair[1], pair[1]+1)
			}
		}
	}
}

// P9.1: a manifest is written over another one of its slot, a longer or a lesser one too.
func TestSaveOver(t *testing.T) {
	for _, size := range sizes() {
		d := one(t, size)
		for i, generation := range []uint64{4, 6, 2, 8, 8, 10} {
			l := many([]int{12, 3, 12, 0, 7, 1}[i])
			save(t, d, generation, l, api.OK)
			tells(t, d, l, generation, generation+1)
		}
	}
}

// P9.1, R2, R3: Save refuses entries that aren't formed, generations that may not be and
// devices that are too small, and does no act then.
func TestSaveOfWrongArguments(t *testing.T) {
	d := one(t, 8)
	save(t, d, 3, few(), api.OK)
	before := all(t, d)
	acts := d.Acts()
	for _, l := range unformed() {
		save(t, d, 4, l, api.ErrArg)
	}
	for _, generation := range []uint64{0, top + 1, top + 2, 1 << 63, math.MaxUint64} {
		save(t, d, generation, nil, api.ErrArg)
		save(t, d, generation, few(), api.ErrArg)
		save(t, d, generation, many(13), api.ErrArg)
	}
	if d.Acts() != acts || !slices.EqualFunc(all(t, d), before, slices.Equal[[]uint64]) {
		t.Error("what is refused does acts")
	}
	tells(t, d, few(), 3, 4)
}

// P9.1, P9.2: devices that have fewer blocks than two slots, and those that have just enough.
func TestSmallDevices(t *testing.T) {
	for _, size := range sizes() {
		for n := range 2*Slot(size) + 2 {
			d := made(t, size, n)
			if n >= 2*Slot(size) {
				tells(t, d, nil, 0, 1)
				save(t, d, 1, few(), api.OK)
				save(t, d, 2, few(), api.OK)
				continue
			}
			refuses(t, d, api.ErrArg)
			save(t, d, 1, few(), api.ErrArg)
			save(t, d, 2, nil, api.ErrArg)
			if d.Acts() != 0 {
				t.Errorf("%d acts on %d blocks of %d words", d.Acts(), n, size)
			}
		}
	}
	var zero device.Device
	save(t, &zero, 1, nil, api.ErrArg)
	refuses(t, &zero, api.ErrArg)
}

// P9.1, P9.2, R1, R2: without power it is ErrLost, whatever else is wrong.
func TestDown(t *testing.T) {
	small, right := made(t, 8, 3), one(t, 8)
	save(t, right, 1, few(), api.OK)
	right.Crash(nil)
	small.Crash(nil)
	for _, d := range []*device.Device{nil, small, right} {
		refuses(t, d, api.ErrLost)
		save(t, d, 2, nil, api.ErrLost)
		save(t, d, 2, many(13), api.ErrLost)
		save(t, d, 0, few(), api.ErrLost)
		save(t, d, top+1, []Entry{{}}, api.ErrLost)
	}
}

// P9.1, R2: as long as the power is there, arguments are refused first.
func TestRefusedAheadOfTheFuse(t *testing.T) {
	d := one(t, 8)
	d.SetFuse(0)
	d.SetFault(0)
	save(t, d, 0, nil, api.ErrArg)
	save(t, d, 1, []Entry{{}}, api.ErrArg)
	if d.Down() {
		t.Error("what is refused takes the power")
	}
	save(t, d, 1, nil, api.ErrLost)
	small := made(t, 8, 21)
	small.SetFuse(0)
	refuses(t, small, api.ErrArg)
	if small.Down() {
		t.Error("what is refused takes the power")
	}
}

// P9.1: the first error that comes, at whichever act, ends a Save: no act is tried behind it.
func TestErrorsOfSave(t *testing.T) {
	for _, size := range []int{8, 33, 64} {
		n := Slot(size)
		for at := range n + 1 {
			d := one(t, size)
			save(t, d, 1, few(), api.OK)
			acts := d.Acts()
			d.SetFault(at)
			save(t, d, 2, many(5), api.ErrFault)
			if d.Acts() != acts+at {
				t.Errorf("%d acts, with the fault behind %d", d.Acts()-acts, at)
			}
			tells(t, d.Crash(nil), few(), 1, 2)

			d = one(t, size)
			save(t, d, 1, few(), api.OK)
			d.SetFuse(at)
			save(t, d, 2, many(5), api.ErrLost)
			if d.Acts() != acts+at || !d.Down() {
				t.Errorf("%d acts, with the fuse at %d", d.Acts()-acts, at)
			}
		}
		d := one(t, size)
		d.SetFault(n + 1)
		d.SetFuse(n + 1)
		save(t, d, 2, many(5), api.OK)
		refuses(t, d, api.ErrLost)
	}
}

// P9.2, R3: Load reads all blocks of both slots, in order, and no other, once; the first error
// that comes ends it.
func TestActsOfLoad(t *testing.T) {
	for _, size := range []int{8, 33, 64, 256} {
		n := 2 * Slot(size)
		d := made(t, size, n+4)
		tells(t, d, nil, 0, 1)
		if d.Acts() != n {
			t.Errorf("%d acts for %d blocks", d.Acts(), n)
		}
		save(t, d, 1, few(), api.OK)
		save(t, d, 2, many(12), api.OK)
		for at := range n {
			acts := d.Acts()
			d.SetFault(at)
			refuses(t, d, api.ErrFault)
			if d.Acts() != acts+at {
				t.Errorf("%d acts, with the fault behind %d", d.Acts()-acts, at)
			}
			tells(t, d, many(12), 2, 3)
		}
		for at := range n {
			acts := d.Acts()
			d.SetFuse(at)
			refuses(t, d, api.ErrLost)
			if d.Acts() != acts+at || !d.Down() {
				t.Errorf("%d acts, with the fuse at %d", d.Acts()-acts, at)
			}
			d = d.Crash(nil)
			tells(t, d, many(12), 2, 3)
		}
		d.SetFuse(n)
		tells(t, d, many(12), 2, 3)
		if d.Down() {
			t.Errorf("more than %d acts", n)
		}
	}
}

// torn are two manifests, of which one is to be torn in the slot s, and the entries and the
// generation of the other one, which stands whatever comes.
func torn(t *testing.T, size, s int) (d *device.Device, older [][]uint64, stands uint64) {
	t.Helper()
	d = one(t, size)
	stands = 5 - uint64(s)
	save(t, d, stands, many(4), api.OK)
	save(t, d, stands-1, few(), api.OK)
	older = all(t, d)
	save(t, d, stands+1, many(12), api.OK)
	tells(t, d, many(12), stands+1, stands+2)
	return d, older, stands
}

// P9.2: a manifest doesn't stand if one block, whichever, isn't sealed there, or with another
// tag; the next generation is above the tags of the others.
func TestTornManifests(t *testing.T) {
	for _, size := range []int{8, 33, 64, 256} {
		n := Slot(size)
		for _, s := range []int{0, 1} {
			d, older, stands := torn(t, size, s)
			next := stands + 3
			if n == 1 {
				next = stands + 1 // no block tells of the torn one
			}
			for i := s * n; i < s*n+n; i++ {
				was := read(t, d, i)
				share := was[:was[size-1]>>32-1]
				not := func(words []uint64, next uint64) {
					t.Helper()
					write(t, d, i, words)
					tells(t, d, many(4), stands, next)
				}
				not(make([]uint64, size), next)
				not(older[i], next)
				for at := range size {
					words := slices.Clone(was)
					words[at] ^= 1 << (at % 64)
					not(words, next)
				}
				not(sealed(size, i+1, stands+1, share), next)
				not(sealed(size, i^1, stands+1, share), next)
				not(sealed(size, i, stands-1, share), next)
				not(sealed(size, i, stands+7, share), stands+9)
				not(sealed(size, i, stands+8, share), stands+9)
				not(sealed(size, i, 0, share), next)
				write(t, d, i, was)
				tells(t, d, many(12), stands+1, stands+2)
			}
		}
	}
}

// P9.2: whichever blocks of a slot are those of an older manifest and the others those of a
// newer one, none of the two stands; but where all of them are.
func TestMixedManifests(t *testing.T) {
	for _, s := range []int{0, 1} {
		d, older, stands := torn(t, 8, s)
		newer := all(t, d)
		for set := 1; set < 1<<11-1; set++ {
			for i := range 11 {
				from := newer
				if set>>i&1 == 0 {
					from = older
				}
				write(t, d, 11*s+i, from[11*s+i])
			}
			tells(t, d, many(4), stands, stands+3)
		}
	}
}

// hasNoWord tells whether an entry's name has no word of its own: it is too long, or zeros
// that can't be told from those behind it are its end.
func hasNoWord(x Entry) bool {
	return len(x.Name) > 8 || strings.HasSuffix(x.Name, "\x00")
}

// P9.2: blocks that are all sealed as they should be, but of other words than a manifest's,
// are none.
func TestWordsOfNoManifest(t *testing.T) {
	for _, size := range []int{8, 9, 33, 64, 256} {
		d := one(t, size)
		save(t, d, 5, many(3), api.OK)
		not := func(words []uint64) {
			t.Helper()
			if len(words) <= Slot(size)*(size-2) {
				lay(t, d, 0, 8, words)
				tells(t, d, many(3), 5, 10)
			}
		}
		for _, l := range unformed() {
			if !slices.ContainsFunc(l, hasNoWord) {
				not(plain(8, l))
			}
		}
		for _, l := range [][]Entry{nil, many(1), few()} {
			words := plain(8, l)
			lay(t, d, 0, 8, words)
			tells(t, d, l, 8, 9)
			for n := range words {
				not(words[:n])
			}
			not(append(words, 0))
			not(append(words, 1, 2))
			not(append(words, nameWord("zzzzzzzzz"), 1, 2, 3))
			not(append(words, nameWord("zzzzzzzzz"), 1, 2, 3, 4))
			not(append(words, 0, 0, 0, 0, 0))
			for _, count := range []uint64{0, 1, 2, 6, 7, 8, 12, 13, 1 << 32, 1 << 63, math.MaxUint64} {
				if count != uint64(len(l)) {
					not(slices.Concat(words[:1], []uint64{count}, words[2:]))
				}
			}
			for _, generation := range []uint64{0, 1, 5, 6, 7, 9, 10, 8 << 32, math.MaxUint64} {
				not(append([]uint64{generation}, words[1:]...))
			}
		}
		for _, name := range []uint64{
			0, 'a', 'a' << 48, 0x6100620000000000, 0x6161000000000001, 0x6100000000000061, 0xff00000000000000, 0x6161616161616180,
		} {
			words := plain(8, many(1))
			words[2] = name
			not(words)
		}
		for _, n := range []uint64{1<<40 + 1, 1 << 41, 1 << 62, 1 << 63, 1<<63 + 1, math.MaxUint64} {
			for i := 3; i <= 6; i++ {
				words := plain(8, many(1))
				words[i] = n
				not(words)
			}
		}
	}
}

// P9.2: a manifest's words that stand in other shares in the blocks are none.
func TestOtherShares(t *testing.T) {
	words := plain(8, many(2))
	d := one(t, 8)
	save(t, d, 5, many(3), api.OK)
	lay(t, d, 0, 8, words)
	tells(t, d, many(2), 8, 9)
	for _, shares := range [][]int{{6, 5, 1}, {5, 6, 1}, {6, 0, 6}, {0, 6, 6}, {1, 1, 1, 1, 1, 1, 6}, {2, 5, 5}, {0, 0, 0, 0, 0, 0, 0, 0, 0, 6, 6}} {
		at := 0
		for i := range 11 {
			n := 0
			if i < len(shares) {
				n = shares[i]
			}
			write(t, d, i, sealed(8, i, 8, words[at:at+n]))
			at += n
		}
		if at != len(words) {
			t.Fatalf("%v aren't %d", shares, len(words))
		}
		tells(t, d, many(3), 5, 10)
	}
}

// P9.2: a manifest in the slot of the other ones doesn't stand, nor does one of a generation
// that may not be.
func TestWrongSlotsAndGenerations(t *testing.T) {
	for _, size := range []int{8, 64} {
		for _, s := range []int{0, 1} {
			for _, c := range []struct{ tag, next uint64 }{
				{uint64(10 + s), 11 + uint64(s)},
				{uint64(11 + s), 12 + uint64(s)},
				{uint64(12 + s), 13 + uint64(s)},
				{0, 1},
				{top, top + 1},
				{top + 1, 1},
				{top + 2, 1},
				{1 << 63, 1},
				{math.MaxUint64, 1},
			} {
				d := one(t, size)
				lay(t, d, s, c.tag, plain(c.tag, few()))
				if c.tag == 0 || c.tag > top || c.tag%2 != uint64(s) {
					tells(t, d, nil, 0, c.next)
				} else {
					tells(t, d, few(), c.tag, c.next)
				}
			}
		}
	}
}

// P9.2: the next generation is the least one above the tags of all that is sealed there and
// may be a generation, but not of the slot where a manifest stands.
func TestNextGeneration(t *testing.T) {
	for _, size := range []int{8, 33, 256} {
		n := Slot(size)
		for _, c := range []struct{ stands, tag, next uint64 }{
			{0, 1, 2}, {0, 2, 3}, {0, 77, 78}, {0, top, top + 1}, {0, top + 1, 1}, {0, math.MaxUint64, 1}, {0, 0, 1},
			{6, 0, 7}, {6, 1, 7}, {6, 5, 7}, {6, 6, 7}, {6, 7, 9}, {6, 8, 9}, {6, 9, 11}, {6, top - 1, top + 1}, {6, top, top + 1},
			{6, top + 1, 7}, {6, 1 << 63, 7}, {6, math.MaxUint64, 7},
			{7, 0, 8}, {7, 6, 8}, {7, 7, 8}, {7, 8, 10}, {7, 9, 10}, {7, top - 2, top}, {7, top - 1, top}, {7, top, top + 2},
			{7, top + 1, 8}, {7, math.MaxUint64, 8},
			{top, 1, top + 1}, {top, top - 1, top + 1}, {top, top, top + 1}, {top - 1, top, top + 2},
		} {
			other := n * int((c.stands+1)%2)
			for i := other; i < other+n; i++ {
				d := made(t, size, 2*n+1)
				var l []Entry
				if c.stands > 0 {
					l = few()
					save(t, d, c.stands, l, api.OK)
				}
				write(t, d, i, sealed(size, i, c.tag, []uint64{3, 4, 5}))
				tells(t, d, l, c.stands, c.next)
				write(t, d, i, sealed(size, i+1, c.tag, []uint64{3, 4, 5}))
				tells(t, d, l, c.stands, c.stands+1)
			}
			d := made(t, size, 2*n+1)
			write(t, d, 2*n, sealed(size, 2*n, c.tag, nil))
			tells(t, d, nil, 0, 1)
		}
	}
}

// P9.3: behind a crash at any act of a Save with the next generation, whatever is kept, Load
// tells what stood or what is new, and just the new one if it was saved.
func TestCrashes(t *testing.T) {
	for _, size := range []int{8, 12, 33, 64, 256} {
		n := Slot(size)
		for _, saves := range []uint64{0, 1, 2, 3} {
			for acts := range n + 2 {
				for set := range 1 << min(acts, n) {
					d := one(t, size)
					var stood []Entry
					for g := range saves {
						stood = many(int(g) + 1)
						save(t, d, g+1, stood, api.OK)
					}
					d.SetFuse(acts)
					e := Save(d, saves+1, few())
					if (e == api.OK) != (acts > n) {
						t.Fatalf("Save with the fuse at %d: error %d", acts, e)
					}
					keep := make([]bool, n)
					kept := 0
					for i := range keep {
						keep[i] = set>>i&1 == 1
						kept += set >> i & 1
					}
					d = d.Crash(keep)
					switch {
					case acts > n || kept == n:
						tells(t, d, few(), saves+1, saves+2)
					case kept > 0 && saves > 0:
						tells(t, d, stood, saves, saves+3)
					default:
						tells(t, d, stood, saves, saves+1+uint64(min(kept, 1)))
					}
				}
			}
		}
	}
}

// P9.3: so it goes on, through any number of crashes, each at some act of a Save with the
// generation that Load told.
func TestManyCrashes(t *testing.T) {
	for _, size := range []int{8, 13, 63, 64} {
		n := Slot(size)
		d := one(t, size)
		var stood []Entry
		x := uint64(0x9e3779b97f4a7c15)
		draw := func(n int) int {
			x ^= x << 13
			x ^= x >> 7
			x ^= x << 17
			return int(x >> 33 % uint64(n))
		}
		for step := range 3000 {
			l, generation, next, e := Load(d)
			if e != api.OK || !slices.Equal(l, stood) || next <= generation {
				t.Fatalf("step %d: %v, %d, %d, error %d, not %v", step, l, generation, next, e, stood)
			}
			with := many(draw(13))
			for i := range with {
				with[i].Count = step
			}
			d.SetFuse(draw(n + 3))
			saved := Save(d, next, with) == api.OK
			keep := make([]bool, n)
			all := true
			for i := range keep {
				keep[i] = draw(n) > 0
				all = all && keep[i]
			}
			d = d.Crash(keep)
			l, _, _, e = Load(d)
			if e != api.OK || !slices.Equal(l, with) && (saved || !slices.Equal(l, stood)) {
				t.Fatalf("step %d: %v, error %d, neither %v nor %v", step, l, e, stood, with)
			}
			stood = l
		}
	}
}

// R5: what is handed in is left as it is, its spare room too, and isn't kept; what is answered
// is new memory.
func TestMemory(t *testing.T) {
	d := one(t, 8)
	room := many(12)
	save(t, d, 1, room[2:7], api.OK)
	save(t, d, 2, room[2:5:5], api.OK)
	save(t, d, 0, room[2:5], api.ErrArg)
	if !slices.Equal(room, many(12)) {
		t.Errorf("Save changed its argument: %v", room)
	}
	clear(room)
	tells(t, d, many(12)[2:5], 2, 3)
	l, _, _, _ := Load(d)
	clear(l[:cap(l)])
	tells(t, d, many(12)[2:5], 2, 3)
}

// R7: devices don't hang on one another.
func TestTwoDevices(t *testing.T) {
	a, b := one(t, 8), one(t, 64)
	save(t, a, 1, few(), api.OK)
	tells(t, b, nil, 0, 1)
	save(t, b, 4, many(2), api.OK)
	tells(t, a, few(), 1, 2)
	tells(t, b, many(2), 4, 5)
}
