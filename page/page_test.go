package page

import (
	"bytes"
	"hash/crc32"
	"math"
	"math/rand"
	"slices"
	"strings"
	"testing"

	"lunette/api"
	"lunette/sum"
)

// plain is a page that may be, of these cells.
func plain(cells ...string) api.Page {
	return api.Page{Kind: 7, No: 0x01020304, Epoch: 0x05060708, Link: 0x090a0b0c, Cells: cells}
}

// letters is a text of so many of one letter.
func letters(n int) string { return strings.Repeat("a", n) }

// must is Put of a page that may be.
func must(t *testing.T, p api.Page) []byte {
	t.Helper()
	b, e := Put(sum.New(), p)
	if e != api.OK || len(b) != 256 {
		t.Fatalf("Put of %v: %d bytes, %d", p, len(b), e)
	}
	return b
}

// sealed is bytes with the right sum behind their first 252.
func sealed(b []byte) []byte {
	c := bytes.Clone(b[:252])
	v := crc32.ChecksumIEEE(c)
	return append(c, byte(v>>24), byte(v>>16), byte(v>>8), byte(v))
}

// nothing is whether a page is its zero value.
func nothing(p api.Page) bool {
	return p.Kind == 0 && p.No == 0 && p.Epoch == 0 && p.Link == 0 && p.Cells == nil
}

// refused holds Get's answer against an error, and nothing beside it.
func refused(t *testing.T, what string, b []byte, want api.Errno) {
	t.Helper()
	if p, e := Get(sum.New(), b); e != want || !nothing(p) {
		t.Errorf("%s: %v, %d, not %d", what, p, e, want)
	}
}

// gets holds Get's answer against a page, field by field.
func gets(t *testing.T, what string, b []byte, want api.Page) {
	t.Helper()
	p, e := Get(sum.New(), b)
	if e != api.OK || p.Kind != want.Kind || p.No != want.No || p.Epoch != want.Epoch || p.Link != want.Link || !slices.Equal(p.Cells, want.Cells) {
		t.Fatalf("%s: %v, %d, not %v", what, p, e, want)
	}
}

// The chapter's example, byte by byte.
func TestExample(t *testing.T) {
	p := api.Page{Kind: 1, No: 2, Epoch: 3, Cells: []string{"ab", ""}}
	want := "\x01\x02\x00\x00\x00\x02\x00\x00\x00\x03\x00\x00\x00\x00\xfa\x02\xfa\x00" +
		strings.Repeat("\x00", 232) + "ab" + "\x3d\x80\xc6\x19"
	b := must(t, p)
	for i := range want {
		if b[i] != want[i] {
			t.Errorf("byte %d is %d, not %d", i, b[i], want[i])
		}
	}
	gets(t, "the example", []byte(want), p)
	if Room(p.Cells) != 6 {
		t.Error("room", Room(p.Cells))
	}
}

// Pages that may be, with their bytes up to the noughts, and the bytes of their cells: written by hand.
var laid = []struct {
	p           api.Page
	head, cells string
}{
	{api.Page{Kind: 1}, "\x01\x00\x00\x00\x00\x00\x00\x00\x00\x00\x00\x00\x00\x00", ""},
	{api.Page{Kind: 255, No: 1<<32 - 1, Epoch: 1<<32 - 1, Link: 1<<32 - 1}, "\xff\x00\xff\xff\xff\xff\xff\xff\xff\xff\xff\xff\xff\xff", ""},
	{plain(), "\x07\x00\x01\x02\x03\x04\x05\x06\x07\x08\x09\x0a\x0b\x0c", ""},
	{plain(""), "\x07\x01\x01\x02\x03\x04\x05\x06\x07\x08\x09\x0a\x0b\x0c\xfc\x00", ""},
	{plain("", "", ""), "\x07\x03\x01\x02\x03\x04\x05\x06\x07\x08\x09\x0a\x0b\x0c\xfc\x00\xfc\x00\xfc\x00", ""},
	{plain("x"), "\x07\x01\x01\x02\x03\x04\x05\x06\x07\x08\x09\x0a\x0b\x0c\xfb\x01", "x"},
	{plain("abc", "", "de"), "\x07\x03\x01\x02\x03\x04\x05\x06\x07\x08\x09\x0a\x0b\x0c\xf9\x03\xf9\x00\xf7\x02", "deabc"},
	{plain("", "a", "bc", ""), "\x07\x04\x01\x02\x03\x04\x05\x06\x07\x08\x09\x0a\x0b\x0c\xfc\x00\xfb\x01\xf9\x02\xf9\x00", "bca"},
	{plain("\x00", "\xff\x00", "é"), "\x07\x03\x01\x02\x03\x04\x05\x06\x07\x08\x09\x0a\x0b\x0c\xfb\x01\xf9\x02\xf7\x02", "é\xff\x00\x00"},
	{plain(letters(234)), "\x07\x01\x01\x02\x03\x04\x05\x06\x07\x08\x09\x0a\x0b\x0c\x12\xea", letters(234)},
	{plain(letters(200), "b", letters(29)), "\x07\x03\x01\x02\x03\x04\x05\x06\x07\x08\x09\x0a\x0b\x0c\x34\xc8\x33\x01\x16\x1d", letters(29) + "b" + letters(200)},
	{plain(make([]string, 118)...), "\x07\x76\x01\x02\x03\x04\x05\x06\x07\x08\x09\x0a\x0b\x0c" + strings.Repeat("\xfc\x00", 118), ""},
}

// P4.1, and each behind the other.
func TestPutAndGet(t *testing.T) {
	for _, x := range laid {
		want := x.head + strings.Repeat("\x00", 252-len(x.head)-len(x.cells)) + x.cells
		b := must(t, x.p)
		if string(b[:252]) != want {
			t.Errorf("Put of %v is %q, not %q", x.p, b[:252], want)
		}
		if !bytes.Equal(b, sealed([]byte(want))) {
			t.Errorf("Put of %v has the sum %x", x.p, b[252:])
		}
		gets(t, "what was put", b, x.p)
	}
}

// P4.1: the sum is that of 252 bytes, the highest byte first, in words of chapter 2 alone.
func TestPutsSum(t *testing.T) {
	b := must(t, plain("ab", "cde"))
	v := sum.New().Of(b[:252])
	if want := []byte{byte(v >> 24), byte(v >> 16), byte(v >> 8), byte(v)}; !bytes.Equal(b[252:], want) {
		t.Errorf("%x, not %x", b[252:], want)
	}
	if v>>24 == v&255 {
		t.Error("this sum doesn't tell which byte is first")
	}
}

// P4.1: a used summer sums as a new one does.
func TestUsedSummer(t *testing.T) {
	s := sum.New()
	for range 3 {
		for _, x := range laid {
			b, e := Put(s, x.p)
			if e != api.OK || !bytes.Equal(b, must(t, x.p)) {
				t.Fatalf("Put of %v is %q, %d", x.p, b, e)
			}
			if p, e := Get(s, b); e != api.OK || !Same(p, x.p) {
				t.Fatalf("Get is %v, %d, not %v", p, e, x.p)
			}
		}
	}
}

// puts holds what Put says of a page against an error, and nothing beside it; with its bytes the page again.
func puts(t *testing.T, p api.Page, want api.Errno) {
	t.Helper()
	b, e := Put(sum.New(), p)
	if e != want || e != api.OK && b != nil || e == api.OK && len(b) != 256 {
		t.Fatalf("Put of %d, %d, %d, %d, %d cells: %d bytes, %d, not %d", p.Kind, p.No, p.Epoch, p.Link, len(p.Cells), len(b), e, want)
	}
	if e == api.OK {
		gets(t, "what was put", b, p)
	}
}

// P4.1: kinds and their edges.
func TestPutOfKinds(t *testing.T) {
	for kind := 1; kind <= 255; kind++ {
		puts(t, api.Page{Kind: kind}, api.OK)
		if b := must(t, api.Page{Kind: kind}); int(b[0]) != kind {
			t.Errorf("kind %d is byte %d", kind, b[0])
		}
	}
	for _, kind := range []int{math.MinInt, -256, -255, -1, 0, 256, 257, 511, 512, 1 << 32, 1<<32 + 1, math.MaxInt} {
		puts(t, api.Page{Kind: kind}, api.ErrPageForm)
	}
}

// P4.1: numbers, epochs and links, and their edges.
func TestPutOfFields(t *testing.T) {
	for at, set := range map[int]func(p *api.Page, n int){
		2:  func(p *api.Page, n int) { p.No = n },
		6:  func(p *api.Page, n int) { p.Epoch = n },
		10: func(p *api.Page, n int) { p.Link = n },
	} {
		for _, n := range []int{0, 1, 255, 256, 65535, 65536, 1<<24 - 1, 1 << 24, 1<<31 - 1, 1 << 31, 1<<32 - 2, 1<<32 - 1} {
			p := api.Page{Kind: 1}
			set(&p, n)
			puts(t, p, api.OK)
			want := make([]byte, 252)
			want[0] = 1
			copy(want[at:], []byte{byte(n >> 24), byte(n >> 16), byte(n >> 8), byte(n)})
			if b := must(t, p); !bytes.Equal(b[:252], want) {
				t.Errorf("%d at %d: %x", n, at, b[:14])
			}
		}
		for _, n := range []int{math.MinInt, -1 << 32, 1 - 1<<32, -2, -1, 1 << 32, 1<<32 + 1, 1 << 40, math.MaxInt} {
			p := plain("a")
			set(&p, n)
			puts(t, p, api.ErrPageForm)
		}
	}
}

// Cells, and what they take.
var rooms = []struct {
	cells []string
	room  int
}{
	{nil, 0},
	{[]string{}, 0},
	{[]string{""}, 2},
	{[]string{"a"}, 3},
	{[]string{"é"}, 4},
	{[]string{"\x00\x00\x00"}, 5},
	{[]string{"", ""}, 4},
	{[]string{"a", "bc"}, 7},
	{[]string{"abc", "", "de"}, 11},
	{[]string{letters(233)}, 235},
	{[]string{letters(234)}, 236},
	{[]string{letters(235)}, 237},
	{[]string{letters(236)}, 238},
	{[]string{letters(255)}, 257},
	{[]string{letters(256)}, 258},
	{[]string{letters(257)}, 259},
	{[]string{letters(100), letters(131)}, 235},
	{[]string{letters(100), letters(132)}, 236},
	{[]string{letters(100), letters(133)}, 237},
	{[]string{letters(232), ""}, 236},
	{[]string{"", letters(233)}, 237},
	{[]string{"", letters(234)}, 238},
	{[]string{letters(235), letters(235)}, 474},
	{make([]string, 117), 234},
	{append(make([]string, 116), "a"), 235},
	{append(make([]string, 117), "a"), 237},
	{append(make([]string, 116), "ab"), 236},
	{make([]string, 118), 236},
	{append(make([]string, 117), "aa"), 238},
	{make([]string, 119), 238},
	{make([]string, 120), 240},
	{make([]string, 126), 252},
	{make([]string, 127), 254},
	{make([]string, 128), 256},
	{make([]string, 255), 510},
	{make([]string, 256), 512},
	{make([]string, 257), 514},
	{slices.Repeat([]string{"ab"}, 59), 236},
	{slices.Repeat([]string{"ab"}, 60), 240},
}

// P4.2, and P4.1 of the same cells: what takes at most 236 fits, and nothing else is put.
func TestRoomAndFits(t *testing.T) {
	for _, x := range rooms {
		if got := Room(x.cells); got != x.room {
			t.Errorf("Room of %d cells is %d, not %d", len(x.cells), got, x.room)
		}
		if got := Fits(x.cells); got != (x.room <= 236) {
			t.Errorf("Fits of %d cells that take %d is %v", len(x.cells), x.room, got)
		}
		want := api.OK
		if x.room > 236 {
			want = api.ErrPageLong
		}
		puts(t, plain(x.cells...), want)
	}
}

// P4.2: one cell of each length, and two of each that fit together, or don't by one byte.
func TestFitsByOneByte(t *testing.T) {
	for n := range 300 {
		if got := Fits([]string{letters(n)}); got != (n <= 234) {
			t.Errorf("Fits of a cell of %d is %v", n, got)
		}
		if n <= 232 && (!Fits([]string{letters(n), letters(232 - n)}) || Fits([]string{letters(n), letters(233 - n)})) {
			t.Errorf("a cell of %d beside one that fits by a byte", n)
		}
	}
}

// P4.1, P1: what is too long is told ahead of what may not be.
func TestPutsFirstError(t *testing.T) {
	for _, p := range []api.Page{
		{}, {Kind: 256}, {Kind: 1, No: -1}, {Kind: 1, Epoch: 1 << 32}, {Kind: 1, Link: -1}, {Kind: -1, No: -1, Epoch: -1, Link: -1},
	} {
		puts(t, p, api.ErrPageForm)
		p.Cells = []string{letters(234)}
		puts(t, p, api.ErrPageForm)
		for _, cells := range [][]string{{letters(235)}, {letters(1000)}, make([]string, 119), make([]string, 1000)} {
			p.Cells = cells
			puts(t, p, api.ErrPageLong)
		}
	}
}

// P4.1, P1: other than 256 bytes, whatever their sum.
func TestGetOfOtherThanAPage(t *testing.T) {
	b := must(t, plain("ab", "cde"))
	long := append(bytes.Clone(b), b...)
	for n := range 2 * len(b) {
		if n != 256 {
			refused(t, "a page cut, or with more behind", long[:n], api.ErrPageForm)
			refused(t, "noughts", make([]byte, n), api.ErrPageForm)
			refused(t, "the end of a page", long[len(long)-n:], api.ErrPageForm)
		}
	}
	refused(t, "nil", nil, api.ErrPageForm)
	refused(t, "empty", []byte{}, api.ErrPageForm)
	refused(t, "many", make([]byte, 1<<20), api.ErrPageForm)
	gets(t, "the whole page", long[:256], plain("ab", "cde"))
}

// P4.1, P1: a wrong sum is told ahead of a wrong form.
func TestGetsFirstError(t *testing.T) {
	refused(t, "256 noughts", make([]byte, 256), api.ErrPageSum)
	refused(t, "256 times 255", bytes.Repeat([]byte{255}, 256), api.ErrPageSum)
	b := must(t, plain("ab", "cde"))
	b[1] = 200
	refused(t, "a count that is too great, and a wrong sum", b, api.ErrPageSum)
	refused(t, "a count that is too great", sealed(b), api.ErrPageForm)
	refused(t, "a wrong sum, and a byte less", b[:255], api.ErrPageForm)
	b = must(t, plain("ab", "cde"))
	slices.Reverse(b[252:])
	refused(t, "the sum's lowest byte first", b, api.ErrPageSum)
}

// turned are pages on which bits are turned: with many noughts, with none, with many cells.
func turned(t *testing.T) [][]byte {
	t.Helper()
	return [][]byte{
		must(t, api.Page{Kind: 1, No: 2, Epoch: 3, Cells: []string{"ab", ""}}),
		must(t, api.Page{Kind: 1}),
		must(t, plain(letters(234))),
		must(t, plain(make([]string, 118)...)),
		must(t, plain(slices.Repeat([]string{"ab"}, 59)...)),
	}
}

// flip turns the bits of a pattern, from a bit on, the lowest bit of each byte first.
func flip(b []byte, from int, pattern uint32) []byte {
	c := bytes.Clone(b)
	for i := range 32 {
		if pattern>>i&1 == 1 {
			c[(from+i)/8] ^= 1 << ((from + i) % 8)
		}
	}
	return c
}

// P4.3, P4.1: each single bit, the sum's own included.
func TestEachBitTurned(t *testing.T) {
	for _, b := range turned(t) {
		for i := range 256 * 8 {
			c := bytes.Clone(b)
			c[i/8] ^= 1 << (i % 8)
			refused(t, "a bit turned", c, api.ErrPageSum)
		}
	}
}

// P4.3: bits ahead of the sum turned, within 32 in a row: all pairs, and at each place some others.
func TestBitsTurnedInARow(t *testing.T) {
	s := sum.New()
	r := rand.New(rand.NewSource(1))
	for _, b := range turned(t) {
		for from := range 252*8 - 31 {
			patterns := []uint32{1<<32 - 1, 0xedb88320, 0xdb710641, 0x04c11db7, r.Uint32() | 1, r.Uint32() | 1<<31 | 1}
			for i := range 32 {
				patterns = append(patterns, 1|1<<i)
			}
			for _, pattern := range patterns {
				if p, e := Get(s, flip(b, from, pattern)); e != api.ErrPageSum || !nothing(p) {
					t.Fatalf("%#x from bit %d on: %v, %d", pattern, from, p, e)
				}
			}
		}
	}
}

// P4.1: whole bytes in place of others, with the sum of the page that was.
func TestBytesOverwritten(t *testing.T) {
	s := sum.New()
	for _, b := range turned(t) {
		for i := range 256 {
			for x := range 256 {
				c := bytes.Clone(b)
				c[i] = byte(x)
				want := api.ErrPageSum
				if c[i] == b[i] {
					want = api.OK
				}
				if p, e := Get(s, c); e != want || (e != api.OK) != nothing(p) {
					t.Fatalf("%d as byte %d: %v, %d", x, i, p, e)
				}
			}
		}
	}
}

// P4.1: bytes whose sum is right and that are no page's.
func TestGetOfNoPage(t *testing.T) {
	page := must(t, plain("abc", "", "de")) // its table at 14: 249 3, 249 0, 247 2
	for what, turn := range map[string]func(b []byte){
		"a kind of 0":                         func(b []byte) { b[0] = 0 },
		"noughts":                             func(b []byte) { clear(b) },
		"a cell less":                         func(b []byte) { b[1] = 2 },
		"no cell":                             func(b []byte) { b[1] = 0 },
		"a cell more":                         func(b []byte) { b[1] = 4 },
		"119 cells":                           func(b []byte) { b[1] = 119 },
		"120 cells":                           func(b []byte) { b[1] = 120 },
		"128 cells":                           func(b []byte) { b[1] = 128 },
		"255 cells":                           func(b []byte) { b[1] = 255 },
		"the first one begins ahead":          func(b []byte) { b[14]-- },
		"the first one begins behind":         func(b []byte) { b[14]++ },
		"the first one begins at 0":           func(b []byte) { b[14] = 0 },
		"the first one begins in the sum":     func(b []byte) { b[14] = 253 },
		"the first one begins at 255":         func(b []byte) { b[14] = 255 },
		"the first one is longer":             func(b []byte) { b[15]++ },
		"the first one is shorter":            func(b []byte) { b[15]-- },
		"the first one is of 255":             func(b []byte) { b[15] = 255 },
		"the first one goes beyond the page":  func(b []byte) { b[14], b[15] = 255, 255 },
		"the first one covers the sum":        func(b []byte) { b[15] = 7 },
		"the first one ends ahead of the sum": func(b []byte) { b[14] = 248 },
		"the first one begins and ends ahead": func(b []byte) { copy(b[14:], []byte{248, 3, 248, 0, 246, 2}) },
		"an empty one lies elsewhere":         func(b []byte) { b[16]-- },
		"an empty one lies behind":            func(b []byte) { b[16]++ },
		"an empty one isn't empty":            func(b []byte) { b[17] = 1 },
		"the last one begins ahead":           func(b []byte) { b[18]-- },
		"the last one is longer":              func(b []byte) { b[19]++ },
		"the last one lies on the first":      func(b []byte) { b[18] = 250 },
		"there is a gap":                      func(b []byte) { b[18]--; copy(b[246:], "de\x00") },
		"the first cell first": func(b []byte) {
			copy(b[14:], []byte{247, 3, 250, 0, 250, 2})
			copy(b[247:], "abcde")
		},
		"the table the other way round": func(b []byte) { copy(b[14:], []byte{3, 249, 0, 249, 2, 247}) },
		"begins counted from the end":   func(b []byte) { b[14], b[16], b[18] = 256-249, 256-249, 256-247 },
		"a byte behind the table":       func(b []byte) { b[20] = 1 },
		"a byte in the middle":          func(b []byte) { b[100] = 128 },
		"a byte ahead of the cells":     func(b []byte) { b[246] = 255 },
		"a letter ahead of the cells":   func(b []byte) { b[246] = 'e' },
	} {
		b := bytes.Clone(page)
		turn(b[:252])
		refused(t, what, sealed(b), api.ErrPageForm)
	}
	gets(t, "as it was", sealed(page), plain("abc", "", "de"))
}

// P4.1: cells that the bytes of a page have place for, and that take more than the room all the same.
func TestGetOfMoreThanTheRoom(t *testing.T) {
	for what, x := range map[string]struct{ from, size []byte }{
		"a cell of 235":              {[]byte{17}, []byte{235}},
		"a cell of 236":              {[]byte{16}, []byte{236}},
		"two cells that take 237":    {[]byte{152, 19}, []byte{100, 133}},
		"two cells that take 238":    {[]byte{152, 18}, []byte{100, 134}},
		"119 empty cells":            {bytes.Repeat([]byte{252}, 119), make([]byte, 119)},
		"117 empty cells and a byte": {append(bytes.Repeat([]byte{252}, 117), 251), append(make([]byte, 117), 1)},
		"a cell over the table":      {[]byte{15}, []byte{237}},
		"a cell over the head":       {[]byte{2}, []byte{250}},
		"a cell over all":            {[]byte{0}, []byte{252}},
		"118 cells over the table":   {append(bytes.Repeat([]byte{252}, 117), 249), append(make([]byte, 117), 3)},
	} {
		b := make([]byte, 252)
		b[0], b[1] = 1, byte(len(x.from))
		for i := range x.from {
			b[14+2*i], b[15+2*i] = x.from[i], x.size[i]
		}
		refused(t, what, sealed(b), api.ErrPageForm)
	}
}

// P4.1, P1: empty cells without end: their table reaches the sum, and goes on within it, as the numbers are such that the sum tells two of them.
func TestGetOfATableIntoTheSum(t *testing.T) {
	for count, no := range map[byte][]byte{
		120: {0x98, 0x89, 0x9d, 0x45},
		121: {0x0e, 0xb9, 0x9a, 0x32},
		122: {0xb4, 0xe8, 0x93, 0xab},
		255: {0x1b, 0x9f, 0x41, 0x36},
	} {
		b := append(append([]byte{1, count}, no...), make([]byte, 8)...)
		b = sealed(append(b, bytes.Repeat([]byte{252, 0}, 119)...))
		if string(b[252:]) != "\xfc\x00\xfc\x00" {
			t.Fatalf("the sum is %x", b[252:])
		}
		refused(t, "a table into the sum", b, api.ErrPageForm)
	}
}

// P4.1: each byte of a page in place of each other one, its sum told anew: another page where a field or a cell has it, and else none.
func TestEachByteOfAPage(t *testing.T) {
	s := sum.New()
	was := plain("abc", "", "de")
	b := must(t, was)
	for i := range 252 {
		for x := range 256 {
			c := bytes.Clone(b)
			c[i] = byte(x)
			c = sealed(c)
			free := i == 0 && x != 0 || i >= 2 && i < 14 || i >= 247 || c[i] == b[i]
			p, e := Get(s, c)
			if !free {
				if e != api.ErrPageForm || !nothing(p) {
					t.Fatalf("%d as byte %d: %v, %d", x, i, p, e)
				}
				continue
			}
			if again, e2 := Put(s, p); e != api.OK || e2 != api.OK || !bytes.Equal(again, c) || Same(p, was) != bytes.Equal(b, c) {
				t.Fatalf("%d as byte %d: %v, %d, put again %d", x, i, p, e, e2)
			}
		}
	}
}

// some is a page of mixed fields and cells that fit.
func some(r *rand.Rand) api.Page {
	p := api.Page{Kind: 1 + r.Intn(255), No: int(r.Uint32()), Epoch: int(r.Uint32()), Link: int(r.Uint32())}
	for room, most := 236, r.Intn(120); most > 0 && room >= 2; most-- {
		cell := make([]byte, min(room-2, r.Intn(1+r.Intn(1+r.Intn(235)))))
		r.Read(cell)
		p.Cells = append(p.Cells, string(cell))
		room -= 2 + len(cell)
	}
	return p
}

// P4.1: mixed pages there and back; what was told of the cells by the table lies there.
func TestMixedPages(t *testing.T) {
	r := rand.New(rand.NewSource(2))
	for range 20000 {
		p := some(r)
		b := must(t, p)
		gets(t, "a mixed page", b, p)
		if int(b[0]) != p.Kind || int(b[1]) != len(p.Cells) {
			t.Fatalf("%v is %x", p, b)
		}
		end := 252
		for i, c := range p.Cells {
			from, size := int(b[14+2*i]), int(b[15+2*i])
			if from+size != end || string(b[from:end]) != c {
				t.Fatalf("cell %d of %v: %d, %d", i, p, from, size)
			}
			end = from
		}
		if strings.Trim(string(b[14+2*len(p.Cells):end]), "\x00") != "" {
			t.Fatalf("%v isn't nought between: %x", p, b)
		}
	}
}

// P1, P4.1: whatever the bytes are, Get ends, and what it takes for a page is Put of it.
func TestAnyBytes(t *testing.T) {
	r := rand.New(rand.NewSource(3))
	s := sum.New()
	pages := 0
	for i := range 60000 {
		b := make([]byte, 252)
		if i%2 == 0 {
			r.Read(b)
			b[1] = byte(r.Intn(8))
		} else {
			copy(b, must(t, some(r)))
			b[r.Intn(20)] = byte(r.Intn(256))
		}
		b = sealed(b)
		p, e := Get(s, b)
		switch {
		case e == api.OK:
			pages++
			if c, e := Put(s, p); e != api.OK || !bytes.Equal(b, c) {
				t.Fatalf("%x is taken for %v, which is %x, %d", b, p, c, e)
			}
		case e != api.ErrPageForm || !nothing(p):
			t.Fatalf("%x is %v, %d", b, p, e)
		}
	}
	if pages == 0 {
		t.Error("none of them was a page")
	}
}

// P4.2
func TestSame(t *testing.T) {
	for _, p := range []api.Page{{}, plain(), plain("ab", "cd"), plain(letters(1000)), {Kind: -1, No: -1, Epoch: 1 << 40, Link: math.MinInt, Cells: make([]string, 500)}} {
		q := p
		q.Cells = slices.Clone(p.Cells)
		if !Same(p, p) || !Same(p, q) || !Same(q, p) {
			t.Errorf("%v isn't itself", p)
		}
	}
	for _, l := range [][2][]string{{nil, {}}, {{}, nil}, {make([]string, 0, 5), nil}, {{"a", "b"}, append(make([]string, 0, 9), "a", "b")}} {
		if !Same(plain(l[0]...), plain(l[1]...)) {
			t.Errorf("%q and %q", l[0], l[1])
		}
	}
}

// P4.2: pages that differ in one thing alone, asked both ways.
func TestSameOfOthers(t *testing.T) {
	p := plain("ab", "cd")
	for what, turn := range map[string]func(q *api.Page){
		"kind":                      func(q *api.Page) { q.Kind++ },
		"kind, by 256":              func(q *api.Page) { q.Kind += 256 },
		"number":                    func(q *api.Page) { q.No++ },
		"number, by 2^32":           func(q *api.Page) { q.No += 1 << 32 },
		"epoch":                     func(q *api.Page) { q.Epoch-- },
		"epoch, by 2^32":            func(q *api.Page) { q.Epoch += 1 << 32 },
		"link":                      func(q *api.Page) { q.Link = 0 },
		"link, by 2^32":             func(q *api.Page) { q.Link -= 1 << 32 },
		"number and epoch, in turn": func(q *api.Page) { q.No, q.Epoch = q.Epoch, q.No },
		"epoch and link, in turn":   func(q *api.Page) { q.Epoch, q.Link = q.Link, q.Epoch },
		"the first cell":            func(q *api.Page) { q.Cells = []string{"aB", "cd"} },
		"the last cell":             func(q *api.Page) { q.Cells = []string{"ab", "ce"} },
		"a shorter cell":            func(q *api.Page) { q.Cells = []string{"ab", "c"} },
		"a longer cell":             func(q *api.Page) { q.Cells = []string{"ab\x00", "cd"} },
		"the cells' order":          func(q *api.Page) { q.Cells = []string{"cd", "ab"} },
		"where they are cut":        func(q *api.Page) { q.Cells = []string{"abc", "d"} },
		"cells as one":              func(q *api.Page) { q.Cells = []string{"abcd"} },
		"a cell less":               func(q *api.Page) { q.Cells = []string{"ab"} },
		"an empty cell more":        func(q *api.Page) { q.Cells = []string{"ab", "cd", ""} },
		"an empty cell ahead":       func(q *api.Page) { q.Cells = []string{"", "ab", "cd"} },
		"no cells":                  func(q *api.Page) { q.Cells = nil },
	} {
		q := plain("ab", "cd")
		turn(&q)
		if Same(p, q) || Same(q, p) {
			t.Errorf("another one by its %s is the same", what)
		}
	}
	if Same(plain(), plain("")) || Same(plain(""), plain("", "")) {
		t.Error("empty cells count for nothing")
	}
}

// P1: long inputs are answered too.
func TestLong(t *testing.T) {
	cells := slices.Repeat([]string{letters(1 << 12)}, 1<<16)
	if Room(cells) != (1<<12+2)<<16 || Fits(cells) {
		t.Error("many long cells:", Room(cells), Fits(cells))
	}
	puts(t, plain(cells...), api.ErrPageLong)
	puts(t, plain(letters(1<<24)), api.ErrPageLong)
	puts(t, plain(make([]string, 1<<20)...), api.ErrPageLong)
	if !Same(plain(cells...), plain(slices.Clone(cells)...)) || Same(plain(cells...), plain(cells[1:]...)) {
		t.Error("many long cells aren't held against others")
	}
}

// What is handed in isn't changed, the spare room included.
func TestHandedInStays(t *testing.T) {
	room := []string{"ab", "", "spare", "room"}
	p := plain(room[:2]...)
	b := must(t, p)
	Room(room[:2])
	Fits(room[:2])
	Same(p, plain(room[1:3]...))
	if !slices.Equal(room, []string{"ab", "", "spare", "room"}) {
		t.Errorf("the cells became %q", room)
	}
	spare := append(bytes.Clone(b), "spare room"...)
	was := bytes.Clone(spare)
	gets(t, "bytes with spare room", spare[:256], p)
	refused(t, "bytes with spare room, cut", spare[:255], api.ErrPageForm)
	if !bytes.Equal(spare, was) {
		t.Errorf("the bytes became %q", spare)
	}
}

// What is handed in isn't kept: it may be changed afterwards.
func TestHandedInIsNotKept(t *testing.T) {
	s := sum.New()
	p := plain("ab", "cd")
	b, _ := Put(s, p)
	was := bytes.Clone(b)
	p.Cells[0] = "xx"
	if !bytes.Equal(b, was) {
		t.Errorf("a cell that was changed is in the bytes: %q", b)
	}
	q, _ := Get(s, b)
	clear(b)
	if !Same(q, plain("ab", "cd")) {
		t.Errorf("bytes that were changed are in the page: %v", q)
	}
	if c, e := Put(s, plain("ab", "cd")); e != api.OK || !bytes.Equal(c, was) {
		t.Errorf("the next page is another one: %q", c)
	}
}

// What is handed out is new memory.
func TestHandedOutIsNew(t *testing.T) {
	s := sum.New()
	a, _ := Put(s, plain("ab", "cd"))
	b, _ := Put(s, plain("ab", "cd"))
	was := bytes.Clone(b)
	clear(a)
	_ = append(a, 1, 2, 3)
	if !bytes.Equal(b, was) {
		t.Errorf("one answer of Put changed another one to %q", b)
	}
	p, _ := Get(s, b)
	q, _ := Get(s, b)
	p.Cells[0] = "xx"
	_ = append(p.Cells[:1], "y", "z")
	if !bytes.Equal(b, was) || !Same(q, plain("ab", "cd")) {
		t.Errorf("one answer of Get changed another one to %v, or its bytes to %q", q, b)
	}
	if e, _ := Get(s, was); !Same(e, q) {
		t.Errorf("or the next one to %v", e)
	}
}
