package sum

import (
	"bytes"
	"strings"
	"testing"
)

// Bytes with their sums, the chapter's examples first.
var known = []struct {
	b   string
	sum uint32
}{
	{"123456789", 0xcbf43926},
	{"a", 0xe8b7be43},
	{"", 0},
	{"abc", 0x352441c2},
	{"\x00", 0xd202ef8d},
	{"\x00\x00\x00\x00", 0x2144df1c},
	{"\xff", 0xff000000},
	{"\xff\xff\xff\xff", 0xffffffff},
	{"The quick brown fox jumps over the lazy dog", 0x414fa339},
	{strings.Repeat("\x00", 32), 0x190a55ad},
	{strings.Repeat("\xff", 32), 0xff6cab0b},
}

// powers is the powers of the divisor, as the chapter tells them.
var powers = []int{32, 26, 23, 22, 16, 12, 11, 10, 8, 7, 5, 4, 2, 1, 0}

// divided is the sum by the chapter's words, bit by bit: a long division without any table.
func divided(b []byte) uint32 {
	var bits []int // the highest power first
	for _, x := range b {
		for i := range 8 {
			bits = append(bits, int(x>>i)&1)
		}
	}
	bits = append(bits, make([]int, 32)...) // times x^32
	for i := range 32 {
		bits[i] ^= 1
	}
	for i := range len(bits) - 32 {
		if bits[i] == 0 {
			continue
		}
		for _, p := range powers {
			bits[i+32-p] ^= 1
		}
	}
	var sum uint32
	for i, bit := range bits[len(bits)-32:] {
		sum |= uint32(bit^1) << i
	}
	return sum
}

// mixed is so many bytes of all sorts, others for each seed.
func mixed(size int, seed uint32) []byte {
	b := make([]byte, size)
	n := seed*2654435761 + 1
	for i := range b {
		n = n*1664525 + 1013904223
		b[i] = byte(n >> 24)
	}
	return b
}

// flip turns the bits of a pattern in bytes, from a bit on, the lowest bit of each byte first.
func flip(b []byte, from int, pattern uint32) []byte {
	out := bytes.Clone(b)
	for i := range 32 {
		if pattern>>i&1 == 1 {
			out[(from+i)/8] ^= 1 << ((from + i) % 8)
		}
	}
	return out
}

// P2.1
func TestOf(t *testing.T) {
	s := New()
	for _, x := range known {
		if got := s.Of([]byte(x.b)); got != x.sum {
			t.Errorf("Of(%q) is %#x, not %#x", x.b, got, x.sum)
		}
	}
}

// P2.1: nil and empty are one.
func TestOfNothing(t *testing.T) {
	s := New()
	if a, b := s.Of(nil), s.Of([]byte{}); a != 0 || b != 0 {
		t.Errorf("%#x, %#x", a, b)
	}
}

// P2.1: each byte alone, so that no place of the table is left out.
func TestOfEachByte(t *testing.T) {
	s := New()
	for x := range 256 {
		b := []byte{byte(x)}
		if got, want := s.Of(b), divided(b); got != want {
			t.Errorf("Of(%d) is %#x, not %#x", x, got, want)
		}
	}
}

// P2.1: the sum is what the chapter's division leaves.
func TestOfIsTheRest(t *testing.T) {
	s := New()
	hold := func(b []byte) {
		if got, want := s.Of(b), divided(b); got != want {
			t.Fatalf("Of(%x) is %#x, not %#x", b, got, want)
		}
	}
	for size := range 70 {
		hold(make([]byte, size))
		hold(bytes.Repeat([]byte{255}, size))
		for seed := range uint32(20) {
			hold(mixed(size, seed))
		}
	}
	for _, size := range []int{252, 255, 256, 257, 1000, 4096} {
		hold(mixed(size, 1))
	}
}

// P2.1: each bit of short bytes alone.
func TestOfEachBit(t *testing.T) {
	s := New()
	for size := 1; size <= 9; size++ {
		for i := range size * 8 {
			b := make([]byte, size)
			b[i/8] = 1 << (i % 8)
			if got, want := s.Of(b), divided(b); got != want {
				t.Fatalf("Of(%x) is %#x, not %#x", b, got, want)
			}
		}
	}
}

// P2.1: noughts ahead and behind count.
func TestOfNoughts(t *testing.T) {
	s := New()
	seen := map[uint32]int{}
	for size := range 300 {
		seen[s.Of(make([]byte, size))]++
		seen[s.Of(append(make([]byte, size), 1))]++
		seen[s.Of(append([]byte{1, 1}, make([]byte, size)...))]++
	}
	if len(seen) != 900 {
		t.Errorf("900 texts have %d sums", len(seen))
	}
}

// P2.1
func TestPartsOfNothing(t *testing.T) {
	s := New()
	for _, l := range [][][]byte{nil, {}, {nil}, {{}}, {nil, {}, nil}} {
		if got := s.Parts(l...); got != 0 {
			t.Errorf("Parts(%v) is %#x", l, got)
		}
	}
	if got := s.Parts(); got != 0 {
		t.Errorf("Parts() is %#x", got)
	}
}

// P2.1
func TestPartsOfOne(t *testing.T) {
	s := New()
	for _, x := range known {
		if got := s.Parts([]byte(x.b)); got != x.sum {
			t.Errorf("Parts(%q) is %#x, not %#x", x.b, got, x.sum)
		}
	}
}

// P2.1: wherever bytes are cut, and with empty pieces anywhere.
func TestPartsCutAnywhere(t *testing.T) {
	s := New()
	for _, size := range []int{1, 2, 3, 4, 5, 8, 9, 31, 64} {
		b := mixed(size, 7)
		want := divided(b)
		for i := range size + 1 {
			for j := i; j <= size; j++ {
				if got := s.Parts(b[:i], b[i:j], b[j:]); got != want {
					t.Fatalf("%x cut at %d and %d: %#x, not %#x", b, i, j, got, want)
				}
				if got := s.Parts(nil, b[:i], nil, []byte{}, b[i:], nil); got != want {
					t.Fatalf("%x cut at %d, among empty ones: %#x, not %#x", b, i, got, want)
				}
			}
		}
	}
}

// P2.1: as many pieces as there are bytes, and their order counts.
func TestPartsByteByByte(t *testing.T) {
	s := New()
	b := mixed(500, 3)
	var l, back [][]byte
	for i := range b {
		l = append(l, b[i:i+1])
		back = append(back, b[len(b)-1-i:len(b)-i])
	}
	if got, want := s.Parts(l...), divided(b); got != want {
		t.Errorf("%#x, not %#x", got, want)
	}
	if s.Parts(back...) == s.Parts(l...) {
		t.Error("the other way round it is the same")
	}
	if got, want := s.Parts(b, b, b[1:2]), divided(bytes.Join([][]byte{b, b, b[1:2]}, nil)); got != want {
		t.Errorf("pieces of one memory: %#x, not %#x", got, want)
	}
}

// P2.1
func TestRight(t *testing.T) {
	s := New()
	for _, x := range known {
		if !s.Right([]byte(x.b), x.sum) {
			t.Errorf("Right(%q, %#x) is false", x.b, x.sum)
		}
		for i := range 32 {
			if wrong := x.sum ^ 1<<i; s.Right([]byte(x.b), wrong) {
				t.Errorf("Right(%q, %#x) is true", x.b, wrong)
			}
		}
		for _, wrong := range []uint32{x.sum + 1, x.sum - 1, ^x.sum} {
			if s.Right([]byte(x.b), wrong) {
				t.Errorf("Right(%q, %#x) is true", x.b, wrong)
			}
		}
	}
	if !s.Right(nil, 0) || s.Right(nil, 1) || s.Right([]byte("a"), 0) || s.Right([]byte("a"), 0xcbf43926) {
		t.Error("nothing, or another one's sum")
	}
}

// P2.1: each call's bytes are counted, a wrong sum's too, and Count itself counts nothing.
func TestCount(t *testing.T) {
	s := New()
	want := int64(0)
	behind := func(what string, more int64) {
		want += more
		for range 2 {
			if got := s.Count(); got != want {
				t.Fatalf("behind %s: %d, not %d", what, got, want)
			}
		}
	}
	behind("New", 0)
	s.Of([]byte("123456789"))
	behind("Of", 9)
	s.Of(nil)
	behind("Of nothing", 0)
	s.Of(make([]byte, 2, 100))
	behind("Of with spare room", 2)
	s.Parts()
	behind("Parts of none", 0)
	s.Parts(nil, []byte{}, nil)
	behind("Parts of empty ones", 0)
	s.Parts([]byte("1234"), nil, []byte("567"), []byte("8"))
	behind("Parts", 8)
	s.Right([]byte("a"), 0xe8b7be43)
	behind("Right of the right sum", 1)
	s.Right([]byte("abc"), 0)
	behind("Right of a wrong sum", 3)
	s.Right(nil, 0)
	behind("Right of nothing", 0)
	s.Of(make([]byte, 1<<20))
	behind("Of many", 1<<20)
}

// P2.1: each counts its own bytes, whatever another one does.
func TestCountSideBySide(t *testing.T) {
	a, b := New(), New()
	for i := range 10 {
		a.Of(make([]byte, i))
		b.Parts([]byte("1"), []byte("23"))
		a.Right([]byte("a"), 0)
	}
	if a.Count() != 45+10 || b.Count() != 30 {
		t.Error(a.Count(), b.Count())
	}
	if n := New().Count(); n != 0 {
		t.Error("a new one:", n)
	}
}

// P2.1: what was summed ahead is nothing to a sum.
func TestSumsStandAlone(t *testing.T) {
	used := New()
	for size := range 50 {
		used.Of(mixed(size, 5))
		used.Right(mixed(size, 6), 1)
		b := mixed(size, 9)
		if a, b := used.Of(b), New().Of(b); a != b {
			t.Fatalf("%d bytes: %#x by a used one, %#x by a new one", size, a, b)
		}
	}
}

// independent is whether no choice of these numbers, xored, is 0.
func independent(numbers []uint32) bool {
	var rows [32]uint32 // by the highest bit
	for _, n := range numbers {
		for i := 31; i >= 0 && n != 0; i-- {
			if n>>i&1 == 0 {
				continue
			}
			if rows[i] == 0 {
				rows[i] = n
				break
			}
			n ^= rows[i]
		}
		if n == 0 {
			return false
		}
	}
	return true
}

// P2.2: at any place, what 32 bits in a row do to the sum, one by one, can't be undone by others of
// them: as bits do the same whatever the others are (the next test), no pattern at all is missed.
func TestDifferWithin32Bits(t *testing.T) {
	s := New()
	for _, size := range []int{1, 2, 3, 4, 5, 6, 7, 8, 9, 16, 64, 252} {
		b := mixed(size, 11)
		sum := s.Of(b)
		wide := min(32, size*8)
		for from := range size*8 - wide + 1 {
			var does []uint32
			for i := range wide {
				does = append(does, sum^s.Of(flip(b, from, 1<<i)))
			}
			if !independent(does) {
				t.Fatalf("%d bytes, from bit %d on: different bytes have one sum", size, from)
			}
		}
	}
}

// P2.2: what turned bits do to the sum is that of each of them, together.
func TestTurnedBitsAddUp(t *testing.T) {
	s := New()
	for size := 4; size <= 20; size++ {
		b := mixed(size, 13)
		sum := s.Of(b)
		for from := range size*8 - 31 {
			pattern := uint32(from+1) * 2654435761
			want := sum
			for i := range 32 {
				if pattern>>i&1 == 1 {
					want ^= sum ^ s.Of(flip(b, from, 1<<i))
				}
			}
			if got := s.Of(flip(b, from, pattern)); got != want || got == sum {
				t.Fatalf("%d bytes, %#x from bit %d on: %#x, not %#x", size, pattern, from, got, want)
			}
		}
	}
}

// P2.2: patterns themselves: all of two bytes, and the divisor's, which 33 bits alone could hide.
func TestDifferByPatterns(t *testing.T) {
	s := New()
	b := mixed(12, 17)
	sum := s.Of(b)
	for _, from := range []int{0, 1, 7, 8, 31, 32, 63, 64} {
		for pattern := uint32(1); pattern < 1<<16; pattern++ {
			if s.Right(flip(b, from, pattern), sum) {
				t.Fatalf("%#x from bit %d on isn't seen", pattern, from)
			}
		}
		for _, pattern := range []uint32{0xedb88320, 0xdb710641, 0x04c11db7, 0x82608edb, 0xffffffff, 0x80000001, 0x80000000} {
			if s.Right(flip(b, from, pattern), sum) {
				t.Fatalf("%#x from bit %d on isn't seen", pattern, from)
			}
		}
	}
}

// P1: long inputs are answered too.
func TestLong(t *testing.T) {
	s := New()
	const size = 1 << 18
	b := mixed(size, 19)
	want := divided(b)
	if got := s.Of(b); got != want {
		t.Errorf("%#x, not %#x", got, want)
	}
	if got := s.Parts(append(make([][]byte, size), b)...); got != want {
		t.Errorf("behind many empty ones: %#x, not %#x", got, want)
	}
	if n := s.Count(); n != 2*size {
		t.Error(n)
	}
}

// What is handed in isn't changed, the spare room included, and not kept.
func TestHandedInStays(t *testing.T) {
	s := New()
	room := []byte("ab spare room")
	l := [][]byte{room[:1], room[1:2], room[3:8]}
	s.Of(room[:2])
	s.Right(room[:2], 0)
	s.Parts(l[:2]...)
	if string(room) != "ab spare room" || string(l[0])+string(l[1])+string(l[2]) != "abspare" {
		t.Errorf("it became %q, %q", room, l)
	}
	room[0] = 'x'
	if got := s.Of([]byte("ab")); got != divided([]byte("ab")) || s.Count() != 8 {
		t.Errorf("%#x, %d", got, s.Count())
	}
}

// Several of them may be used at one time, each by a goroutine of its own.
func TestSideBySideAtOnce(t *testing.T) {
	const many = 8
	sums := make(chan uint32, many)
	for range many {
		go func() { sums <- New().Of([]byte("123456789")) }()
	}
	for range many {
		if got := <-sums; got != 0xcbf43926 {
			t.Errorf("%#x", got)
		}
	}
}
