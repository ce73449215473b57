package varint

import (
	"bytes"
	"math"
	"slices"
	"strings"
	"testing"

	"abutment/api"
)

// known are numbers with their bytes, written out by hand from the chapter's words.
var known = []struct {
	x uint64
	b string
}{
	{0, "\x00"},
	{1, "\x01"},
	{127, "\x7f"},
	{128, "\x80\x01"},
	{129, "\x81\x01"},
	{255, "\xff\x01"},
	{300, "\xac\x02"},
	{1<<14 - 1, "\xff\x7f"},
	{1 << 14, "\x80\x80\x01"},
	{1<<21 - 1, "\xff\xff\x7f"},
	{1 << 21, "\x80\x80\x80\x01"},
	{1<<28 - 1, "\xff\xff\xff\x7f"},
	{1 << 28, "\x80\x80\x80\x80\x01"},
	{1<<35 - 1, "\xff\xff\xff\xff\x7f"},
	{1 << 35, "\x80\x80\x80\x80\x80\x01"},
	{1<<42 - 1, "\xff\xff\xff\xff\xff\x7f"},
	{1 << 42, "\x80\x80\x80\x80\x80\x80\x01"},
	{1<<49 - 1, "\xff\xff\xff\xff\xff\xff\x7f"},
	{1 << 49, "\x80\x80\x80\x80\x80\x80\x80\x01"},
	{1<<56 - 1, "\xff\xff\xff\xff\xff\xff\xff\x7f"},
	{1 << 56, "\x80\x80\x80\x80\x80\x80\x80\x80\x01"},
	{1<<63 - 1, "\xff\xff\xff\xff\xff\xff\xff\xff\x7f"},
	{1 << 63, "\x80\x80\x80\x80\x80\x80\x80\x80\x80\x01"},
	{math.MaxUint64, "\xff\xff\xff\xff\xff\xff\xff\xff\xff\x01"},
	{0x0123456789abcdef, "\xef\x9b\xaf\xcd\xf8\xac\xd1\x91\x01"},
}

// numbers are many, of all sizes: those around each power of 2, and patterns between.
func numbers() []uint64 {
	l := []uint64{0, math.MaxUint64}
	for i := range 64 {
		p := uint64(1) << i
		l = append(l, p-1, p, p+1, 0x9e3779b97f4a7c15>>i, 0xaaaaaaaaaaaaaaaa>>i)
	}
	for x := range uint64(40000) {
		l = append(l, x)
	}
	slices.Sort(l)
	return slices.Compact(l)
}

// P1.1: the lowest seven bits first, 128 added to all but the last, as few bytes as can be.
func TestPutAndSizeOfKnownNumbers(t *testing.T) {
	for _, c := range known {
		if b := Put(nil, c.x); string(b) != c.b {
			t.Errorf("Put(nil, %d): %x, not %x", c.x, b, c.b)
		}
		if n := Size(c.x); n != len(c.b) {
			t.Errorf("Size(%d): %d, not %d", c.x, n, len(c.b))
		}
	}
}

// P1.1: Size tells how many bytes Put adds, and no shorter bytes could hold the number.
func TestSizeIsWhatPutAdds(t *testing.T) {
	for _, x := range numbers() {
		n := Size(x)
		if b := Put([]byte("ab"), x); len(b) != 2+n {
			t.Fatalf("Put adds %d bytes for %d, Size: %d", len(b)-2, x, n)
		}
		if n < 1 || n > 10 || n > 1 && x>>(7*(n-1)) == 0 || n < 10 && x>>(7*n) != 0 {
			t.Fatalf("Size(%d): %d", x, n)
		}
	}
}

// P1.1: what stood in b stands ahead of the number's bytes.
func TestPutGoesBehind(t *testing.T) {
	for _, ahead := range []string{"", "\x00", "\x80", "abc", "\xff\xff"} {
		for _, c := range known {
			if b := Put([]byte(ahead), c.x); string(b) != ahead+c.b {
				t.Errorf("Put(%x, %d): %x", ahead, c.x, b)
			}
		}
	}
}

// P1.1, with R5: the answer is new memory; the argument and its spare room are left as they are.
func TestPutIsNewMemory(t *testing.T) {
	whole := bytes.Repeat([]byte{7}, 32)
	for _, c := range known {
		for _, n := range []int{0, 4} {
			b := Put(whole[:n], c.x)
			for i := range b {
				b[i] = 99
			}
			if again := Put(whole[:n], c.x); string(again[n:]) != c.b {
				t.Fatalf("Put(%d) hangs on an answer ahead of it", c.x)
			}
			if !bytes.Equal(whole, bytes.Repeat([]byte{7}, 32)) {
				t.Fatalf("Put of %d changed the argument: %x", c.x, whole)
			}
		}
	}
}

// P1.2: the number, and the place behind it, whatever stands around it.
func TestTakeOfKnownNumbers(t *testing.T) {
	for _, ahead := range []string{"", "\x00", "\x80", "\xff\xff\xff"} {
		for _, behind := range []string{"", "\x00", "\x01", "\x80", "\xff\xff"} {
			for _, c := range known {
				b := ahead + c.b + behind
				x, n, e := Take([]byte(b), len(ahead))
				if x != c.x || n != len(ahead+c.b) || e != api.OK {
					t.Errorf("Take(%x, %d): %d %d %d", b, len(ahead), x, n, e)
				}
			}
		}
	}
}

// P1.2: ErrArg, with two zeros, for every place outside 0 to len(b).
func TestTakeOutside(t *testing.T) {
	for _, b := range [][]byte{nil, {}, {0}, {1, 2, 3}, {0x80, 0x80}} {
		for _, at := range []int{-1, -2, math.MinInt, len(b) + 1, len(b) + 2, math.MaxInt} {
			if x, n, e := Take(b, at); x != 0 || n != 0 || e != api.ErrArg {
				t.Errorf("Take(%x, %d): %d %d %d", b, at, x, n, e)
			}
		}
	}
}

// wrong are bytes with the first place, from at on, where no number goes on.
var wrong = []struct {
	b     string
	at, n int
}{
	{"", 0, 0},
	{"\x01", 1, 1},
	{"\x80", 0, 1},
	{"\x80", 1, 1},
	{"\xff\xff\xff", 0, 3},
	{"\x05\xff\xff", 1, 3},
	{"\x80\x00", 0, 1},
	{"\xff\x00", 0, 1},
	{"\x80\x00\x01", 0, 1},
	{"\x80\x80\x00\x80", 0, 2},
	{"\x80\x80\x80", 3, 3},
	{"\x01\x02\x80\x00", 2, 3},
	{"\x00\x80\x80\x80\x00", 1, 4},
	{"\x80\x80\x80\x80\x80\x80\x80\x80\x00", 0, 8},
}

// P1.2: ErrFormat, with 0 and the place of the wrong byte; len(b), where the bytes end too early.
func TestTakeOfWrongBytes(t *testing.T) {
	for _, c := range wrong {
		if x, n, e := Take([]byte(c.b), c.at); x != 0 || n != c.n || e != api.ErrFormat {
			t.Errorf("Take(%x, %d): %d %d %d, not the place %d", c.b, c.at, x, n, e, c.n)
		}
	}
	if x, n, e := Take(nil, 0); x != 0 || n != 0 || e != api.ErrFormat {
		t.Errorf("Take(nil, 0): %d %d %d", x, n, e)
	}
}

// P1.2: nine bytes that go on want a tenth that is 1, whatever comes behind it.
func TestTakeOfTenthByte(t *testing.T) {
	for _, first := range []string{"\x80", "\xff", "\xa5"} {
		for _, at := range []int{0, 1, 3} {
			nine := strings.Repeat("\x80", at) + strings.Repeat(first, 9)
			if x, n, e := Take([]byte(nine), at); x != 0 || n != at+9 || e != api.ErrFormat {
				t.Errorf("nine bytes %x at %d: %d %d %d", first, at, x, n, e)
			}
			for tenth := range 256 {
				b := append([]byte(nine), byte(tenth), 1)
				x, n, e := Take(b, at)
				if tenth == 1 && (x < 1<<63 || n != at+10 || e != api.OK) ||
					tenth != 1 && (x != 0 || n != at+9 || e != api.ErrFormat) {
					t.Errorf("Take(%x, %d): %d %d %d", b, at, x, n, e)
				}
			}
		}
	}
}

// P1.2: all strings of three bytes, held against what Put makes of the numbers below 128 to the third.
func TestTakeOfAllShortBytes(t *testing.T) {
	whole := map[[3]byte]uint64{}
	for x := range uint64(1 << 21) {
		var k [3]byte
		if n := copy(k[:], Put(nil, x)); n == 3 {
			whole[k] = x
		}
	}
	for i := range 1 << 24 {
		b := [3]byte{byte(i), byte(i >> 8), byte(i >> 16)}
		x, n, e := Take(b[:], 0)
		wantX, wantN, wantE := shortTake(b, whole)
		if x != wantX || n != wantN || e != wantE {
			t.Fatalf("Take(%x, 0): %d %d %d, not %d %d %d", b, x, n, e, wantX, wantN, wantE)
		}
	}
}

// shortTake is what Take has to answer of b at 0, if whole has the numbers of three bytes.
func shortTake(b [3]byte, whole map[[3]byte]uint64) (uint64, int, api.Errno) {
	switch {
	case b[0] < 128:
		return uint64(b[0]), 1, api.OK
	case b[1] == 0:
		return 0, 1, api.ErrFormat
	case b[1] < 128:
		return uint64(b[0]) - 128 + uint64(b[1])*128, 2, api.OK
	case b[2] == 0:
		return 0, 2, api.ErrFormat
	case b[2] >= 128:
		return 0, 3, api.ErrFormat
	}
	x, ok := whole[b]
	if !ok {
		return 0, -1, api.ErrNone
	}
	return x, 3, api.OK
}

// P1.2, with R5: Take leaves its argument as it is.
func TestTakeLeavesItsArgument(t *testing.T) {
	for _, c := range wrong {
		b := []byte(c.b)
		Take(b, c.at)
		if string(b) != c.b {
			t.Errorf("Take changed %x to %x", c.b, b)
		}
	}
}

// P1.3: what is put is taken, also when many stand one behind the other.
func TestPutThenTake(t *testing.T) {
	l := numbers()
	for i, x := range l {
		ahead := []byte{0xff, 0, 0x80}[:i%4]
		b := Put(ahead, x)
		if y, n, e := Take(b, len(ahead)); y != x || n != len(b) || e != api.OK {
			t.Fatalf("%d was put behind %x; taken: %d %d %d", x, ahead, y, n, e)
		}
	}
	var b []byte
	for _, c := range known {
		b = Put(b, c.x)
	}
	at := 0
	for _, c := range known {
		x, n, e := Take(b, at)
		if x != c.x || n != at+len(c.b) || e != api.OK {
			t.Fatalf("%d was put; taken at %d: %d %d %d", c.x, at, x, n, e)
		}
		at = n
	}
	if at != len(b) {
		t.Errorf("%d bytes were put, %d taken", len(b), at)
	}
}

// P1.3: in the bytes' order the beginning of another stands next to it, so neighbours suffice.
func TestNoNumberBeginsAnother(t *testing.T) {
	var l []string
	for _, x := range numbers() {
		l = append(l, string(Put(nil, x)))
	}
	slices.Sort(l)
	for i := 1; i < len(l); i++ {
		if strings.HasPrefix(l[i], l[i-1]) {
			t.Fatalf("%x begins %x", l[i-1], l[i])
		}
	}
}

// P1.3: no true beginning of a number's bytes is a number's bytes.
func TestBeginningsAreNoNumbers(t *testing.T) {
	for _, x := range numbers() {
		b := Put(nil, x)
		for n := range b {
			if y, at, e := Take(b[:n], 0); y != 0 || at != n || e != api.ErrFormat {
				t.Fatalf("%d of %x: %d %d %d", n, b, y, at, e)
			}
		}
	}
}
