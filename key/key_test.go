package key

import (
	"slices"
	"strings"
	"testing"

	"lunette/api"
)

// Keys that are written out by hand, with their parts: ordinary ones and the edges.
var keys = []struct {
	parts []string
	key   string
}{
	{nil, ""},
	{[]string{""}, "\x00\x00"},
	{[]string{"", ""}, "\x00\x00\x00\x00"},
	{[]string{"a", "b"}, "a\x00\x00b\x00\x00"},
	{[]string{"doc", "a.txt", "viewer"}, "doc\x00\x00a.txt\x00\x00viewer\x00\x00"},
	{[]string{"", "a", ""}, "\x00\x00a\x00\x00\x00\x00"},
	{[]string{"\x00"}, "\x00\xff\x00\x00"},
	{[]string{"\x00\x00"}, "\x00\xff\x00\xff\x00\x00"},
	{[]string{"\xff"}, "\xff\x00\x00"},
	{[]string{"", "\xff"}, "\x00\x00\xff\x00\x00"},
	{[]string{"\x00\xff"}, "\x00\xff\xff\x00\x00"},
	{[]string{"\xff\x00", "\x01"}, "\xff\x00\xff\x00\x00\x01\x00\x00"},
	{[]string{"a\x00b", "é"}, "a\x00\xffb\x00\x00é\x00\x00"},
}

// texts is all texts of at most so many bytes, out of these.
func texts(most int, bytes string) []string {
	all := []string{""}
	for from := 0; most > 0; most-- {
		to := len(all)
		for _, s := range all[from:to] {
			for i := range len(bytes) {
				all = append(all, s+bytes[i:i+1])
			}
		}
		from = to
	}
	return all
}

// lists is all lists of at most so many parts, out of these.
func lists(most int, parts []string) [][]string {
	all := [][]string{nil}
	for from := 0; most > 0; most-- {
		to := len(all)
		for _, l := range all[from:to] {
			for _, p := range parts {
				all = append(all, append(slices.Clone(l), p))
			}
		}
		from = to
	}
	return all
}

// ahead is the document's words on parts that come ahead, one by one.
func ahead(a, b []string) bool {
	for i := range min(len(a), len(b)) {
		if a[i] != b[i] {
			return below(a[i], b[i])
		}
	}
	return len(a) < len(b)
}

// below is whether a text is below another one, byte by byte.
func below(a, b string) bool {
	for i := range min(len(a), len(b)) {
		if a[i] != b[i] {
			return a[i] < b[i]
		}
	}
	return len(a) < len(b)
}

// P1.1
func TestPutAndGet(t *testing.T) {
	for _, x := range keys {
		if s := Put(x.parts...); s != x.key {
			t.Errorf("Put(%q) is %q, not %q", x.parts, s, x.key)
		}
		if l, e := Get(x.key); !slices.Equal(l, x.parts) || e != api.OK {
			t.Errorf("Get(%q) is %q, %d, not %q", x.key, l, e, x.parts)
		}
	}
}

// P1.1
func TestPutOfNothing(t *testing.T) {
	if a, b := Put(), Put([]string{}...); a != "" || b != "" {
		t.Errorf("%q, %q", a, b)
	}
}

// P1.1
func TestGetIsPutBackwards(t *testing.T) {
	for _, l := range lists(3, texts(2, "\x00\x01\xfe\xff")) {
		if got, e := Get(Put(l...)); !slices.Equal(got, l) || e != api.OK {
			t.Fatalf("%q comes back as %q, %d", l, got, e)
		}
	}
}

// P1.1, P1: a text that is no key, and nothing beside the error.
func TestGetOfNoKey(t *testing.T) {
	for _, s := range []string{
		"a", "abc", "\xff", "\x01",
		"\x00", "a\x00", "\x00\x00\x00", "a\x00\x00\x00", "a\x00\x00b\x00",
		"\x00\x01", "a\x00\x01", "\x00a\x00\x00", "a\x00\xfe\x00\x00", "a\x00b\x00\x00", "a\x00\x00b\x00c\x00\x00",
		"\x00\xff", "a\x00\xff", "\x00\xff\x00", "a\x00\x00\x00\xff", "a\x00\x00\x00\xff\x00",
		"a\x00\x00b", "a\x00\x00b\x00\x00c", "a\x00\x00\xff",
	} {
		if l, e := Get(s); len(l) != 0 || e != api.ErrKeyForm {
			t.Errorf("Get(%q) is %q, %d", s, l, e)
		}
	}
}

// P1.1: of all short texts those alone are keys that Put makes.
func TestKeysAreWhatPutMakes(t *testing.T) {
	const most = 6
	made := map[string]int{}
	for _, l := range lists(most/2, texts(most-2, "\x00\x01\xff")) {
		made[Put(l...)]++
	}
	for _, s := range texts(most, "\x00\x01\xff") {
		want := api.ErrKeyForm
		if made[s] == 1 {
			want = api.OK
		}
		if l, e := Get(s); e != want || e != api.OK && len(l) != 0 {
			t.Fatalf("Get(%q) is %q, %d, not %d", s, l, e, want)
		}
	}
	for s, n := range made {
		if n != 1 {
			t.Fatalf("%q is the key of %d lists", s, n)
		}
	}
}

// P1.1
func TestLess(t *testing.T) {
	for _, x := range []struct {
		a, b []string
		less bool
	}{
		{nil, nil, false},
		{nil, []string{}, false},
		{nil, []string{""}, true},
		{[]string{""}, nil, false},
		{[]string{"a"}, []string{"a"}, false},
		{[]string{"a"}, []string{"b"}, true},
		{[]string{"b"}, []string{"a"}, false},
		{[]string{"a"}, []string{"a", ""}, true},
		{[]string{"a", ""}, []string{"a"}, false},
		{[]string{"a"}, []string{"ab"}, true},
		{[]string{"a", "z"}, []string{"ab"}, true},
		{[]string{"a", "\xff"}, []string{"a\x00"}, true},
		{[]string{"ab"}, []string{"a", "b"}, false},
		{[]string{"b"}, []string{"a", "c", "d"}, false},
		{[]string{"a", "c", "d"}, []string{"b"}, true},
		{[]string{"a", "b", "z"}, []string{"a", "c", "a"}, true},
		{[]string{"\x7f"}, []string{"\x80"}, true},
		{[]string{"Z"}, []string{"a"}, true},
		{[]string{"10"}, []string{"9"}, true},
	} {
		if got := Less(x.a, x.b); got != x.less {
			t.Errorf("Less(%q, %q) is %v", x.a, x.b, got)
		}
	}
}

// P1.2
func TestAfter(t *testing.T) {
	for _, x := range []struct{ s, after string }{
		{"a", "b"},
		{"a\xff", "b"},
		{"abc", "abd"},
		{"ab\xff\xff\xff", "ac"},
		{"a\xffb", "a\xffc"},
		{"\xffa\xff", "\xffb"},
		{"\xff\xff\x00", "\xff\xff\x01"},
		{"\x00", "\x01"},
		{"\x00\xff", "\x01"},
		{"a\x00\x00", "a\x00\x01"},
		{"\x7f", "\x80"},
		{"\xfe", "\xff"},
		{"\xfe\xff", "\xff"},
		{"é", "\xc3\xaa"},
		{"a\x80", "a\x81"},
		{"a\uFFFD", "a\xef\xbf\xbe"},
	} {
		if got, ok := After(x.s); got != x.after || !ok {
			t.Errorf("After(%q) is %q, %v, not %q", x.s, got, ok, x.after)
		}
	}
}

// P1.2: nothing is above texts of the highest byte alone, or of none.
func TestAfterOfTheHighest(t *testing.T) {
	for _, s := range []string{"", "\xff", "\xff\xff", strings.Repeat("\xff", 1000)} {
		if got, ok := After(s); got != "" || ok {
			t.Errorf("After(%q) is %q, %v", s, got, ok)
		}
	}
}

// P1.2: above all that begin with the text, and no other text that is so is below it.
func TestAfterIsTheLeast(t *testing.T) {
	all := texts(3, "\x00\x01\xfe\xff")
	for _, s := range texts(2, "\x00\x01\xfe\xff") {
		after, ok := After(s)
		for _, u := range all {
			above := s < u && !strings.HasPrefix(u, s)
			if reached := ok && u >= after; above != reached {
				t.Fatalf("After(%q) is %q, %v: wrong at %q", s, after, ok, u)
			}
		}
	}
}

// Numbers and their bytes, the least and the greatest among them, rising.
var numbers = []struct {
	n uint64
	s string
}{
	{0, "\x00\x00\x00\x00\x00\x00\x00\x00"},
	{1, "\x00\x00\x00\x00\x00\x00\x00\x01"},
	{255, "\x00\x00\x00\x00\x00\x00\x00\xff"},
	{256, "\x00\x00\x00\x00\x00\x00\x01\x00"},
	{258, "\x00\x00\x00\x00\x00\x00\x01\x02"},
	{1<<32 - 1, "\x00\x00\x00\x00\xff\xff\xff\xff"},
	{1 << 32, "\x00\x00\x00\x01\x00\x00\x00\x00"},
	{0x0102030405060708, "\x01\x02\x03\x04\x05\x06\x07\x08"},
	{1<<63 - 1, "\x7f\xff\xff\xff\xff\xff\xff\xff"},
	{1 << 63, "\x80\x00\x00\x00\x00\x00\x00\x00"},
	{0xf1f2f3f4f5f6f7f8, "\xf1\xf2\xf3\xf4\xf5\xf6\xf7\xf8"},
	{1<<64 - 2, "\xff\xff\xff\xff\xff\xff\xff\xfe"},
	{1<<64 - 1, "\xff\xff\xff\xff\xff\xff\xff\xff"},
}

// P1.2
func TestNumAndOf(t *testing.T) {
	for i, x := range numbers {
		if s := Num(x.n); s != x.s {
			t.Errorf("Num(%d) is %q", x.n, s)
		}
		if n, e := Of(x.s); n != x.n || e != api.OK {
			t.Errorf("Of(%q) is %d, %d", x.s, n, e)
		}
		if i > 0 && Num(numbers[i-1].n) >= Num(x.n) {
			t.Errorf("Num(%d) isn't below Num(%d)", numbers[i-1].n, x.n)
		}
	}
}

// P1.2: each bit has a place of its own.
func TestNumOfEachBit(t *testing.T) {
	for i := range 64 {
		want := make([]byte, 8)
		want[7-i/8] = 1 << (i % 8)
		if s := Num(1 << i); s != string(want) {
			t.Errorf("Num of bit %d is %q", i, s)
		}
		if n, e := Of(string(want)); n != 1<<i || e != api.OK {
			t.Errorf("Of bit %d is %d, %d", i, n, e)
		}
	}
}

// P1.2, P1: other than eight bytes, and nothing beside the error.
func TestOfOtherThanEight(t *testing.T) {
	for _, s := range []string{"", "\x01", "1234567", "\x00\x00\x00\x00\x00\x00\x00", "123456789", "\x00\x00\x00\x00\x00\x00\x00\x00\x01", "1234567812345678", "éééééééé"} {
		if n, e := Of(s); n != 0 || e != api.ErrKeyForm {
			t.Errorf("Of(%q) is %d, %d", s, n, e)
		}
	}
}

// P1.1, P1.3: Less, the document's words and the keys' bytes tell one order.
func TestOneOrder(t *testing.T) {
	all := lists(2, texts(2, "\x00\x01\xff"))
	all = append(all, lists(4, []string{"", "\x00"})...)
	all = append(all, lists(3, []string{"a", "ab", "\xfe", "é"})...)
	for _, a := range all {
		for _, b := range all {
			want := ahead(a, b)
			if Less(a, b) != want {
				t.Fatalf("Less(%q, %q) isn't %v", a, b, want)
			}
			if (Put(a...) < Put(b...)) != want {
				t.Fatalf("the keys of %q and %q stand otherwise than they do", a, b)
			}
		}
	}
}

// P1.3: a key begins with those of fewer of its parts, and with no others.
func TestKeyBeginsWithFewer(t *testing.T) {
	all := lists(2, texts(2, "\x00\x01\xff"))
	for _, a := range all {
		for _, b := range all {
			want := len(a) <= len(b) && slices.Equal(a, b[:len(a)])
			if strings.HasPrefix(Put(b...), Put(a...)) != want {
				t.Fatalf("whether the key of %q begins with that of %q isn't %v", b, a, want)
			}
		}
	}
}

// P1: long inputs are answered too.
func TestLong(t *testing.T) {
	const size = 1 << 18
	parts := []string{strings.Repeat("\x00", size), strings.Repeat("\xff", size), strings.Repeat("a", size)}
	if l, e := Get(Put(parts...)); !slices.Equal(l, parts) || e != api.OK {
		t.Error("long parts:", len(l), e)
	}
	many := make([]string, size)
	if l, e := Get(Put(many...)); !slices.Equal(l, many) || e != api.OK {
		t.Error("many parts:", len(l), e)
	}
	if l, e := Get(Put(many...) + "a"); len(l) != 0 || e != api.ErrKeyForm {
		t.Error("many parts and a rest:", len(l), e)
	}
	if s, ok := After("a" + strings.Repeat("\xff", size)); s != "b" || !ok {
		t.Error("a long text:", len(s), ok)
	}
}

// What is handed in isn't changed, the spare room included.
func TestHandedInStays(t *testing.T) {
	room := []string{"a\x00", "b", "spare", "room"}
	was := slices.Clone(room)
	Put(room[:2]...)
	Less(room[:2], room[1:3])
	if !slices.Equal(room, was) {
		t.Errorf("%q became %q", was, room)
	}
}

// What is handed out is new memory.
func TestHandedOutIsNew(t *testing.T) {
	a, _ := Get("a\x00\x00b\x00\x00")
	b, _ := Get("a\x00\x00b\x00\x00")
	a[0] = "x"
	_ = append(a[:1], "y")
	if !slices.Equal(b, []string{"a", "b"}) {
		t.Errorf("one answer changed another one to %q", b)
	}
}
