package super

import (
	"bytes"
	"encoding/binary"
	"fmt"
	"hash/crc32"
	"math"
	"math/rand"
	"slices"
	"testing"

	"lunette/api"
	"lunette/page"
	"lunette/sum"
)

const top = 1<<32 - 1

// plain is a super that may be, with so great an epoch.
func plain(epoch int) api.Super {
	return api.Super{Epoch: epoch, Root: 5, Free: 2, Pages: 258}
}

// sealed is 252 bytes with their sum behind.
func sealed(b []byte) []byte {
	return binary.BigEndian.AppendUint32(bytes.Clone(b[:252]), crc32.ChecksumIEEE(b[:252]))
}

// laid is a super's bytes by the chapters' words: the page's head, where its cell begins, noughts, the cell, the sum.
func laid(x api.Super) []byte {
	b := make([]byte, 252)
	b[0], b[1], b[14], b[15] = 9, 1, 240, 12
	binary.BigEndian.PutUint32(b[2:], uint32(x.Epoch&1))
	binary.BigEndian.PutUint32(b[6:], uint32(x.Epoch))
	binary.BigEndian.PutUint32(b[240:], uint32(x.Root))
	binary.BigEndian.PutUint32(b[244:], uint32(x.Free))
	binary.BigEndian.PutUint32(b[248:], uint32(x.Pages))
	return sealed(b)
}

// mayBe is the chapter's words of a super.
func mayBe(x api.Super) bool {
	for _, no := range []int{x.Root, x.Free} {
		if no != 0 && (no < 2 || no >= x.Pages) {
			return false
		}
	}
	return x.Epoch >= 0 && x.Epoch <= top && x.Pages >= 2 && x.Pages <= 4096
}

// put is Put of a super that may be.
func put(t *testing.T, x api.Super) []byte {
	t.Helper()
	b, slot, e := Put(sum.New(), x)
	if e != api.OK || len(b) != 256 || slot != x.Epoch%2 {
		t.Fatalf("Put of %v: %d bytes, slot %d, %d", x, len(b), slot, e)
	}
	return b
}

// gets holds Get's answer against a super.
func gets(t *testing.T, what string, slot int, b []byte, want api.Super) {
	t.Helper()
	if x, e := Get(sum.New(), slot, b); e != api.OK || x != want {
		t.Fatalf("Get of %s in slot %d: %v, %d, not %v", what, slot, x, e, want)
	}
}

// refuses holds Get's answer against an error, and nothing beside it.
func refuses(t *testing.T, what string, slot int, b []byte, want api.Errno) {
	t.Helper()
	if x, e := Get(sum.New(), slot, b); e != want || x != (api.Super{}) {
		t.Errorf("Get of %s in slot %d: %v, %d, not %d", what, slot, x, e, want)
	}
}

// picks holds Pick's answer against a super.
func picks(t *testing.T, what string, a, b []byte, want api.Super) {
	t.Helper()
	if x, e := Pick(sum.New(), a, b); e != api.OK || x != want {
		t.Errorf("Pick of %s: %v, %d, not %v", what, x, e, want)
	}
}

// picksNone holds Pick's answer where no super is there.
func picksNone(t *testing.T, what string, a, b []byte) {
	t.Helper()
	if x, e := Pick(sum.New(), a, b); e != api.ErrSuperForm || x != (api.Super{}) {
		t.Errorf("Pick of %s: %v, %d, not %d", what, x, e, api.ErrSuperForm)
	}
}

// checks holds Check's and Put's answers of a super, and Get's of what was put.
func checks(t *testing.T, x api.Super, want bool) {
	t.Helper()
	if got := Check(x); got != want {
		t.Errorf("Check of %v: %v", x, got)
	}
	b, slot, e := Put(sum.New(), x)
	if !want {
		if b != nil || slot != 0 || e != api.ErrSuperForm {
			t.Errorf("Put of %v: %x, slot %d, %d, not %d", x, b, slot, e, api.ErrSuperForm)
		}
		return
	}
	if e != api.OK || slot != x.Epoch%2 || !bytes.Equal(b, laid(x)) {
		t.Fatalf("Put of %v: %x, slot %d, %d", x, b, slot, e)
	}
	gets(t, "what was put", slot, b, x)
	refuses(t, "what was put", 1-slot, b, api.ErrSuperForm)
}

// The chapter's example.
func TestExample(t *testing.T) {
	four, five := put(t, plain(4)), put(t, plain(5))
	picks(t, "4 and 5", four, five, plain(5))
	five[7]++
	picks(t, "4, and 5 that is turned", four, five, plain(4))
}

// P7.1: a super's bytes, written by hand.
func TestBytes(t *testing.T) {
	for _, x := range []struct {
		super      api.Super
		slot       int
		head, cell string
	}{
		{api.Super{Epoch: 6, Root: 5, Free: 2, Pages: 258}, 0, "\x09\x01\x00\x00\x00\x00\x00\x00\x00\x06\x00\x00\x00\x00\xf0\x0c", "\x00\x00\x00\x05\x00\x00\x00\x02\x00\x00\x01\x02"},
		{api.Super{Epoch: 7, Root: 0, Free: 0, Pages: 2}, 1, "\x09\x01\x00\x00\x00\x01\x00\x00\x00\x07\x00\x00\x00\x00\xf0\x0c", "\x00\x00\x00\x00\x00\x00\x00\x00\x00\x00\x00\x02"},
		{api.Super{Epoch: 0x01020304, Root: 4095, Free: 1027, Pages: 4096}, 0, "\x09\x01\x00\x00\x00\x00\x01\x02\x03\x04\x00\x00\x00\x00\xf0\x0c", "\x00\x00\x0f\xff\x00\x00\x04\x03\x00\x00\x10\x00"},
		{api.Super{Epoch: top, Root: 2, Free: 255, Pages: 256}, 1, "\x09\x01\x00\x00\x00\x01\xff\xff\xff\xff\x00\x00\x00\x00\xf0\x0c", "\x00\x00\x00\x02\x00\x00\x00\xff\x00\x00\x01\x00"},
		{api.Super{Epoch: 0, Pages: 2}, 0, "\x09\x01\x00\x00\x00\x00\x00\x00\x00\x00\x00\x00\x00\x00\xf0\x0c", "\x00\x00\x00\x00\x00\x00\x00\x00\x00\x00\x00\x02"},
	} {
		want := slices.Concat([]byte(x.head), make([]byte, 224), []byte(x.cell))
		b, slot, e := Put(sum.New(), x.super)
		if e != api.OK || slot != x.slot || !bytes.Equal(b, sealed(want)) {
			t.Errorf("Put of %v: %x, slot %d, %d", x.super, b, slot, e)
		}
		gets(t, "bytes written by hand", x.slot, sealed(want), x.super)
	}
}

// P7.1: each field at the edges that the chapter names, the others being such that may be.
func TestCheckOfEdges(t *testing.T) {
	for epoch, want := range map[int]bool{
		math.MinInt: false, -1 << 32: false, -2: false, -1: false,
		0: true, 1: true, 2: true, 1<<31 - 1: true, 1 << 31: true, top - 1: true, top: true,
		1 << 32: false, 1<<32 + 1: false, 1 << 33: false, math.MaxInt: false,
	} {
		checks(t, api.Super{Epoch: epoch, Pages: 2}, want)
		checks(t, plain(epoch), want)
	}
	for pages, want := range map[int]bool{
		math.MinInt: false, -1 << 32: false, -2: false, -1: false, 0: false, 1: false,
		2: true, 3: true, 4: true, 255: true, 256: true, 4095: true, 4096: true,
		4097: false, 1 << 16: false, 1<<32 + 2: false, math.MaxInt: false,
	} {
		checks(t, api.Super{Epoch: 3, Pages: pages}, want)
		checks(t, api.Super{Epoch: 4, Root: 2, Free: 2, Pages: pages}, want && pages > 2)
	}
	for no, want := range map[int]bool{
		math.MinInt: false, -1 << 32: false, -2: false, -1: false, 1: false,
		0: true, 2: true, 3: true, 256: true, 257: true,
		258: false, 259: false, 4095: false, 4096: false, 1 << 32: false, 1<<32 + 2: false, math.MaxInt: false,
	} {
		checks(t, api.Super{Epoch: 3, Root: no, Pages: 258}, want)
		checks(t, api.Super{Epoch: 4, Free: no, Pages: 258}, want)
		checks(t, api.Super{Epoch: 5, Root: no, Free: 7, Pages: 258}, want)
		checks(t, api.Super{Epoch: 6, Root: 7, Free: no, Pages: 258}, want)
		checks(t, api.Super{Epoch: 7, Root: no, Free: no, Pages: 258}, want)
	}
}

// P7.1, P1: all mixes of numbers at the edges.
func TestCheckOfMixes(t *testing.T) {
	numbers := []int{math.MinInt, -1, 0, 1, 2, 3, 4, 4094, 4095, 4096, 4097, math.MaxInt}
	for _, epoch := range []int{math.MinInt, -1, 0, 1, 2, top, 1 << 32, math.MaxInt} {
		for _, root := range numbers {
			for _, free := range numbers {
				for _, pages := range numbers {
					x := api.Super{Epoch: epoch, Root: root, Free: free, Pages: pages}
					checks(t, x, mayBe(x))
				}
			}
		}
	}
}

// P7.1: supers at random, there and back; a summer that summed before sums as a new one does.
func TestPutAndGet(t *testing.T) {
	r := rand.New(rand.NewSource(7))
	s := sum.New()
	for range 20000 {
		x := some(r)
		b, slot, e := Put(s, x)
		if e != api.OK || slot != x.Epoch%2 || !bytes.Equal(b, laid(x)) {
			t.Fatalf("Put of %v: %x, slot %d, %d", x, b, slot, e)
		}
		if y, e := Get(s, slot, b); e != api.OK || y != x {
			t.Fatalf("Get of %v: %v, %d", x, y, e)
		}
		if y, e := Get(s, 1-slot, b); e != api.ErrSuperForm || y != (api.Super{}) {
			t.Fatalf("Get of %v, in the other slot: %v, %d", x, y, e)
		}
	}
}

// some is a super that may be, at random.
func some(r *rand.Rand) api.Super {
	pages := 2 + r.Intn(4095)
	return api.Super{Epoch: int(r.Uint32()) >> r.Intn(32), Root: lead(r, pages), Free: lead(r, pages), Pages: pages}
}

// lead is a page that a super of so many pages may lead to, at random, or 0.
func lead(r *rand.Rand, pages int) int {
	if pages == 2 || r.Intn(4) == 0 {
		return 0
	}
	return 2 + r.Intn(pages-2)
}

// slots that are neither 0 nor 1, with such among them as are one of these if only some of their bits are asked.
var noSlots = []int{math.MinInt, math.MinInt + 1, -1 << 32, 1 - 1<<32, -256, -2, -1, 2, 3, 4, 5, 256, 257, 1 << 32, 1<<32 + 1, math.MaxInt - 1, math.MaxInt}

// P7.1: in slots that aren't there no super is, but what is no page is told first.
func TestGetInNoSlot(t *testing.T) {
	for _, slot := range noSlots {
		for _, epoch := range []int{0, 1, 4, 5, top - 1, top} {
			b := put(t, plain(epoch))
			refuses(t, fmt.Sprintf("epoch %d", epoch), slot, b, api.ErrSuperForm)
			refuses(t, "a byte less", slot, b[:255], api.ErrPageForm)
			b[100]++
			refuses(t, "a byte that was turned", slot, b, api.ErrPageSum)
		}
		// A page whose number is the slot's: of no super all the same.
		if slot >= 0 && slot <= top {
			p := pageLike(4)
			p.No = slot
			refuses(t, "a page of that number", slot, bytesOf(t, p), api.ErrSuperForm)
			p.Epoch = 5
			refuses(t, "a page of that number", slot, bytesOf(t, p), api.ErrSuperForm)
		}
	}
}

// P7.1: bytes that are no page's, in each slot: chapter 4's errors.
func TestGetOfNoPage(t *testing.T) {
	for epoch := range 2 {
		b := put(t, plain(epoch))
		for _, slot := range []int{0, 1, 2, -1} {
			for _, size := range []int{0, 1, 12, 64, 128, 252, 254, 255} {
				refuses(t, fmt.Sprintf("%d bytes", size), slot, b[:size], api.ErrPageForm)
			}
			refuses(t, "nil", slot, nil, api.ErrPageForm)
			refuses(t, "a byte more", slot, append(bytes.Clone(b), 0), api.ErrPageForm)
			refuses(t, "a byte ahead", slot, append([]byte{0}, b...), api.ErrPageForm)
			refuses(t, "two pages", slot, slices.Concat(b, b), api.ErrPageForm)
			refuses(t, "many bytes", slot, make([]byte, 1<<20), api.ErrPageForm)
			refuses(t, "noughts", slot, make([]byte, 256), api.ErrPageSum)
			refuses(t, "the highest bytes", slot, bytes.Repeat([]byte{255}, 256), api.ErrPageSum)
			refuses(t, "noughts with their sum", slot, sealed(make([]byte, 252)), api.ErrPageForm)
		}
		for at, x := range map[int]byte{0: 0, 1: 2, 14: 239, 15: 13, 16: 1, 239: 1} {
			c := bytes.Clone(b)
			c[at] = x
			refuses(t, fmt.Sprintf("%d as byte %d, with its sum", x, at), epoch, sealed(c), api.ErrPageForm)
		}
	}
}

// P7.1, P7.3: each byte turned to each other one: no page; and the other slot's super is picked, be it newer or not.
func TestEachByteTurned(t *testing.T) {
	s := sum.New()
	two, three, four := put(t, plain(2)), put(t, plain(3)), put(t, plain(4))
	for at := range 256 {
		for x := 1; x < 256; x++ {
			older, newer, odd := bytes.Clone(two), bytes.Clone(four), bytes.Clone(three)
			older[at] ^= byte(x)
			newer[at] ^= byte(x)
			odd[at] ^= byte(x)
			if y, e := Get(s, 0, older); e != api.ErrPageSum || y != (api.Super{}) {
				t.Fatalf("byte %d turned by %d: %v, %d", at, x, y, e)
			}
			for _, l := range []struct {
				a, b []byte
				want api.Super
			}{{older, three, plain(3)}, {newer, three, plain(3)}, {two, odd, plain(2)}, {four, odd, plain(4)}} {
				if y, e := Pick(s, l.a, l.b); e != api.OK || y != l.want {
					t.Fatalf("byte %d turned by %d: %v, %d, not %v", at, x, y, e, l.want)
				}
			}
			if y, e := Pick(s, newer, odd); e != api.ErrSuperForm || y != (api.Super{}) {
				t.Fatalf("byte %d of both turned by %d: %v, %d", at, x, y, e)
			}
		}
	}
}

// pageLike is the page of a super that may be, by the chapter's words.
func pageLike(epoch int) api.Page {
	return api.Page{Kind: 9, No: epoch % 2, Epoch: epoch, Cells: []string{cellLike(5, 2, 258)}}
}

// cellLike is the numbers of a cell, four bytes each.
func cellLike(numbers ...uint32) string {
	var b []byte
	for _, n := range numbers {
		b = binary.BigEndian.AppendUint32(b, n)
	}
	return string(b)
}

// bytesOf is a page's bytes.
func bytesOf(t *testing.T, p api.Page) []byte {
	t.Helper()
	b, e := page.Put(sum.New(), p)
	if e != api.OK {
		t.Fatalf("%v is no page: %d", p, e)
	}
	return b
}

// others are pages that are no super's, each by one thing that is turned.
var others = map[string]func(p *api.Page){
	"kind 1":                        func(p *api.Page) { p.Kind = 1 },
	"kind 8":                        func(p *api.Page) { p.Kind = 8 },
	"kind 10":                       func(p *api.Page) { p.Kind = 10 },
	"kind 255":                      func(p *api.Page) { p.Kind = 255 },
	"the other number":              func(p *api.Page) { p.No = 1 - p.No },
	"a number of 2 more":            func(p *api.Page) { p.No += 2 },
	"a number of 256 more":          func(p *api.Page) { p.No += 256 },
	"the greatest number":           func(p *api.Page) { p.No = top },
	"the epoch as its number":       func(p *api.Page) { p.No = p.Epoch },
	"an epoch of the other slot":    func(p *api.Page) { p.Epoch++ },
	"an epoch one less":             func(p *api.Page) { p.Epoch-- },
	"link 1":                        func(p *api.Page) { p.Link = 1 },
	"link 2":                        func(p *api.Page) { p.Link = 2 },
	"the slot as its link":          func(p *api.Page) { p.No, p.Link = 1-p.No, p.No+2 },
	"the greatest link":             func(p *api.Page) { p.Link = top },
	"no cell":                       func(p *api.Page) { p.Cells = nil },
	"an empty cell":                 func(p *api.Page) { p.Cells = []string{""} },
	"two cells":                     func(p *api.Page) { p.Cells = append(p.Cells, p.Cells[0]) },
	"an empty cell behind":          func(p *api.Page) { p.Cells = append(p.Cells, "") },
	"an empty cell ahead":           func(p *api.Page) { p.Cells = []string{"", p.Cells[0]} },
	"many cells":                    func(p *api.Page) { p.Cells = slices.Repeat(p.Cells, 16) },
	"a cell for each number":        func(p *api.Page) { p.Cells = []string{cellLike(5), cellLike(2), cellLike(258)} },
	"a cell cut in two":             func(p *api.Page) { p.Cells = []string{cellLike(5, 2), cellLike(258)} },
	"a cell of one byte":            func(p *api.Page) { p.Cells[0] = p.Cells[0][:1] },
	"a cell of four":                func(p *api.Page) { p.Cells[0] = cellLike(5) },
	"a cell of eight":               func(p *api.Page) { p.Cells[0] = cellLike(5, 2) },
	"a cell of eleven":              func(p *api.Page) { p.Cells[0] = p.Cells[0][:11] },
	"a cell of eleven, its end":     func(p *api.Page) { p.Cells[0] = p.Cells[0][1:] },
	"a cell of thirteen":            func(p *api.Page) { p.Cells[0] += "\x00" },
	"a cell of thirteen, one ahead": func(p *api.Page) { p.Cells[0] = "\x00" + p.Cells[0] },
	"a cell of sixteen":             func(p *api.Page) { p.Cells[0] = cellLike(5, 2, 258, 0) },
	"a cell of 234":                 func(p *api.Page) { p.Cells[0] += string(make([]byte, 222)) },
	"pages of 0":                    func(p *api.Page) { p.Cells[0] = cellLike(0, 0, 0) },
	"pages of 1":                    func(p *api.Page) { p.Cells[0] = cellLike(0, 0, 1) },
	"pages of 4097":                 func(p *api.Page) { p.Cells[0] = cellLike(0, 0, 4097) },
	"pages of 2^16 + 2":             func(p *api.Page) { p.Cells[0] = cellLike(0, 0, 1<<16+2) },
	"pages of 2^31":                 func(p *api.Page) { p.Cells[0] = cellLike(0, 0, 1<<31) },
	"pages of 2^32 - 1":             func(p *api.Page) { p.Cells[0] = cellLike(0, 0, top) },
	"a root of 1":                   func(p *api.Page) { p.Cells[0] = cellLike(1, 2, 258) },
	"a root of pages":               func(p *api.Page) { p.Cells[0] = cellLike(258, 2, 258) },
	"a root of 2^32 - 1":            func(p *api.Page) { p.Cells[0] = cellLike(top, 2, 258) },
	"a free of 1":                   func(p *api.Page) { p.Cells[0] = cellLike(5, 1, 258) },
	"a free of pages":               func(p *api.Page) { p.Cells[0] = cellLike(5, 258, 258) },
	"a free of 2^31":                func(p *api.Page) { p.Cells[0] = cellLike(5, 1<<31, 258) },
	"a root of 2, of two pages":     func(p *api.Page) { p.Cells[0] = cellLike(2, 0, 2) },
	"a free of 2, of two pages":     func(p *api.Page) { p.Cells[0] = cellLike(0, 2, 2) },
	"the lowest bytes first":        func(p *api.Page) { p.Cells[0] = cellLike(5<<24, 2<<24, 0x02010000) },
	"the numbers the other way":     func(p *api.Page) { p.Cells[0] = cellLike(258, 2, 5) },
	"pages first":                   func(p *api.Page) { p.Cells[0] = cellLike(258, 5, 2) },
	"a node of the tree, by no one": func(p *api.Page) { *p = api.Page{Kind: 1, No: p.No, Epoch: p.Epoch} },
	"nothing but its kind":          func(p *api.Page) { *p = api.Page{Kind: 9, No: p.No, Epoch: p.Epoch} },
}

// P7.1, P7.2: pages, whole ones, that are no super's, in any slot; beside each the other slot's super is picked.
func TestGetOfOtherPages(t *testing.T) {
	for what, turn := range others {
		for _, epoch := range []int{4, 5} {
			p := pageLike(epoch)
			gets(t, "the page that isn't turned", epoch%2, bytesOf(t, p), plain(epoch))
			turn(&p)
			b := bytesOf(t, p)
			for slot := -1; slot < 4; slot++ {
				refuses(t, what, slot, b, api.ErrSuperForm)
			}
			picks(t, what+", behind a super", put(t, plain(2)), b, plain(2))
			picks(t, what+", ahead of a super", b, put(t, plain(3)), plain(3))
			picksNone(t, what+", twice", b, b)
		}
	}
}

// P7.1: the edges that may be, as pages: what Get mustn't refuse.
func TestGetOfEdges(t *testing.T) {
	for cell, want := range map[string]api.Super{
		cellLike(0, 0, 2):          {Pages: 2},
		cellLike(0, 0, 4096):       {Pages: 4096},
		cellLike(2, 2, 3):          {Root: 2, Free: 2, Pages: 3},
		cellLike(4095, 0, 4096):    {Root: 4095, Pages: 4096},
		cellLike(0, 4095, 4096):    {Free: 4095, Pages: 4096},
		cellLike(257, 256, 258):    {Root: 257, Free: 256, Pages: 258},
		cellLike(4094, 4095, 4096): {Root: 4094, Free: 4095, Pages: 4096},
	} {
		for _, epoch := range []int{0, 1, 2, 255, 256, 65535, 65536, 1<<31 - 1, 1 << 31, top - 1, top} {
			p := pageLike(epoch)
			p.Cells[0] = cell
			want.Epoch = epoch
			gets(t, "a page at the edges", epoch%2, bytesOf(t, p), want)
			refuses(t, "a page at the edges", 1-epoch%2, bytesOf(t, p), api.ErrSuperForm)
		}
	}
}

// P7.1: each byte of a super's page in place of each other one, its sum told anew: what is taken for a super is put as these bytes.
func TestEachByteOfASuper(t *testing.T) {
	s := sum.New()
	for _, epoch := range []int{4, 5} {
		was := put(t, plain(epoch))
		for at := range 252 {
			for x := range 256 {
				b := bytes.Clone(was)
				b[at] = byte(x)
				b = sealed(b)
				y := api.Super{
					Epoch: int(binary.BigEndian.Uint32(b[6:])), Root: int(binary.BigEndian.Uint32(b[240:])),
					Free: int(binary.BigEndian.Uint32(b[244:])), Pages: int(binary.BigEndian.Uint32(b[248:])),
				}
				there := mayBe(y) && bytes.Equal(laid(y), b)
				for slot := range 2 {
					got, e := Get(s, slot, b)
					if want := there && slot == y.Epoch%2; want != (e == api.OK) || want && got != y || !want && got != (api.Super{}) {
						t.Fatalf("%d as byte %d of epoch %d, in slot %d: %v, %d", x, at, epoch, slot, got, e)
					}
				}
			}
		}
	}
}

// P7.2: two that are there, in both orders of their epochs.
func TestPickOfTwo(t *testing.T) {
	even := []int{0, 2, 4, 6, 254, 256, 65536, 1<<31 - 2, 1 << 31, top - 3, top - 1}
	for _, a := range even {
		for _, b := range even {
			x, y := plain(a), api.Super{Epoch: b + 1, Root: 3, Pages: 9}
			want := x
			if b+1 > a {
				want = y
			}
			picks(t, fmt.Sprintf("%d and %d", a, b+1), put(t, x), put(t, y), want)
		}
	}
}

// nowhere are bytes where no super is, in any slot.
func nowhere(t *testing.T) [][]byte {
	turned := put(t, plain(4))
	turned[3] ^= 8
	odd := put(t, plain(5))
	odd[255]++
	other := pageLike(4)
	other.Kind = 3
	return [][]byte{
		nil, {}, {9}, make([]byte, 255), make([]byte, 256), make([]byte, 257), put(t, plain(4))[:255], append(put(t, plain(5)), 0),
		turned, odd, bytesOf(t, other), bytesOf(t, api.Page{Kind: 9}),
	}
}

// P7.2: one that is there and one that isn't, either way, and none.
func TestPickOfOne(t *testing.T) {
	for _, b := range nowhere(t) {
		for _, epoch := range []int{0, 2, 4, 1 << 31, top - 1} {
			x := api.Super{Epoch: epoch, Pages: 2}
			picks(t, "one in slot 0", put(t, x), b, x)
			x.Epoch++
			picks(t, "one in slot 1", b, put(t, x), x)
		}
		for _, c := range nowhere(t) {
			picksNone(t, "none", b, c)
		}
	}
}

// P7.2: supers that lie in the other one's slot aren't there.
func TestPickInTheOthersSlot(t *testing.T) {
	for _, even := range []int{0, 2, 4, 6, top - 1} {
		for _, odd := range []int{1, 3, 5, 7, top} {
			a, b := put(t, plain(even)), put(t, plain(odd))
			picks(t, "the even one twice", a, a, plain(even))
			picks(t, "the odd one twice", b, b, plain(odd))
			picksNone(t, "each in the other one's slot", b, a)
			picks(t, "two even ones", a, put(t, plain(top-1)), plain(even))
			picks(t, "two odd ones", put(t, plain(top)), b, plain(odd))
			for _, c := range nowhere(t) {
				picksNone(t, "one that lies in the other slot, ahead", b, c)
				picksNone(t, "one that lies in the other slot, behind", c, a)
			}
		}
	}
}

// P7.2: Next of supers that may be, and of such as may not.
func TestNext(t *testing.T) {
	for _, x := range []api.Super{{}, plain(0), plain(1), plain(4), plain(top), {Epoch: -1}, {Epoch: -7, Root: -1, Free: 1, Pages: -4}, {Epoch: 1 << 32, Root: 9, Free: 9, Pages: 5000}, {Epoch: math.MinInt, Pages: 2}} {
		for _, n := range [][3]int{{0, 0, 0}, {5, 2, 258}, {2, 5, 300}, {1, 4097, -1}, {math.MinInt, math.MaxInt, 1 << 40}} {
			was := x
			y := Next(x, n[0], n[1], n[2])
			if y.Epoch != x.Epoch+1 || y.Root != n[0] || y.Free != n[1] || y.Pages != n[2] || x != was {
				t.Errorf("Next of %v, %v: %v", x, n, y)
			}
		}
	}
	if y := Next(plain(4), 3, 6, 8); y != (api.Super{Epoch: 5, Root: 3, Free: 6, Pages: 8}) {
		t.Errorf("Next of epoch 4: %v", y)
	}
	if y := Next(plain(top), 3, 6, 8); Check(y) {
		t.Errorf("behind the greatest epoch %v may be", y)
	}
	if y := Next(plain(-1), 3, 6, 8); !Check(y) || y.Epoch != 0 {
		t.Errorf("behind epoch -1: %v", y)
	}
	Next(api.Super{Epoch: math.MaxInt}, 0, 0, 2)
}

// torn is what may lie in a slot that is written anew and torn at a byte: what is ahead of it, or what is behind it, is written.
func torn(was, is []byte, at int) [][]byte {
	return [][]byte{slices.Concat(is[:at], was[at:]), slices.Concat(was[:at], is[at:])}
}

// P7.3: the slot that is written anew torn at any byte: the other one's super, or the new one; and the new one, once it is whole.
func TestTorn(t *testing.T) {
	s := sum.New()
	r := rand.New(rand.NewSource(73))
	for range 300 {
		before := some(r)
		before.Epoch = min(before.Epoch, top-2)
		last := Next(before, lead(r, 9), lead(r, 9), 9)
		next := Next(last, lead(r, 300), lead(r, 300), 300)
		whole, was, is := put(t, last), put(t, before), put(t, next)
		for at := range 257 {
			for _, b := range append(torn(was, is, at), torn(make([]byte, 256), is, at)...) {
				want := last
				if bytes.Equal(b, is) {
					want = next
				}
				slots := [2][]byte{whole, b}
				if last.Epoch%2 == 1 {
					slots = [2][]byte{b, whole}
				}
				if x, e := Pick(s, slots[0], slots[1]); e != api.OK || x != want {
					t.Fatalf("%v behind %v, torn at %d: %v, %d, not %v", next, last, at, x, e, want)
				}
			}
		}
	}
}

// P7.3: sectors of the slot that is written anew survive, or don't, in any mix.
func TestTornBySectors(t *testing.T) {
	for epoch := 2; epoch < 10; epoch++ {
		last := plain(epoch)
		next := Next(last, 7, 3, 300)
		whole, was, is := put(t, last), put(t, plain(epoch-1)), put(t, next)
		for mask := range 16 {
			b := bytes.Clone(was)
			for sector := range 4 {
				if mask>>sector&1 == 1 {
					copy(b[64*sector:64*sector+64], is[64*sector:])
				}
			}
			want := last
			if bytes.Equal(b, is) {
				want = next
			}
			if epoch%2 == 0 {
				picks(t, fmt.Sprintf("sectors %04b", mask), whole, b, want)
			} else {
				picks(t, fmt.Sprintf("sectors %04b", mask), b, whole, want)
			}
		}
	}
}

// P7.2, P7.3: many told in turn, each in the slot that Put says: the last one; and if that is turned, the one ahead of it.
func TestToldInTurn(t *testing.T) {
	r := rand.New(rand.NewSource(77))
	s := sum.New()
	for _, first := range []int{0, 1, 254, 65534, 1<<31 - 100, top - 200} {
		slots := [2][]byte{}
		x := api.Super{Epoch: first, Pages: 2}
		for i := range 200 {
			b, slot, e := Put(s, x)
			if e != api.OK || slot != (first+i)%2 {
				t.Fatalf("%v goes to slot %d, %d", x, slot, e)
			}
			slots[slot] = b
			picks(t, "those that were told in turn", slots[0], slots[1], x)
			turned := slots
			turned[slot] = bytes.Clone(b)
			turned[slot][r.Intn(256)] ^= byte(1 + r.Intn(255))
			if ahead, e := Pick(s, turned[0], turned[1]); i > 0 && (e != api.OK || ahead.Epoch != x.Epoch-1) || i == 0 && e != api.ErrSuperForm {
				t.Fatalf("%v, turned: %v, %d", x, ahead, e)
			}
			pages := min(4096, x.Pages+r.Intn(50))
			x = Next(x, lead(r, pages), lead(r, pages), pages)
		}
	}
}

// P1: whatever the bytes are, Get and Pick end, and what Get takes for a super is Put as these bytes.
func TestAnyBytes(t *testing.T) {
	r := rand.New(rand.NewSource(1))
	s := sum.New()
	there := 0
	for i := range 60000 {
		b := make([]byte, 252)
		if i%2 == 0 {
			r.Read(b)
			b[0], b[1] = 9, byte(r.Intn(4))
		} else {
			copy(b, laid(some(r)))
			b[[]int{0, 1, 5, 9, 13, 14, 15, 16, 243, 247, 251}[r.Intn(11)]] = byte(r.Intn(10))
		}
		b = sealed(b)
		slot := r.Intn(2)
		x, e := Get(s, slot, b)
		if e != api.OK {
			if x != (api.Super{}) || e != api.ErrPageForm && e != api.ErrSuperForm {
				t.Fatalf("Get of %x: %v, %d", b, x, e)
			}
			continue
		}
		there++
		if c, at, e := Put(s, x); e != api.OK || at != slot || !bytes.Equal(b, c) {
			t.Fatalf("%x is taken for %v, in slot %d, which is %x, in slot %d, %d", b, x, slot, c, at, e)
		}
		picksIn(t, slot, b, x)
	}
	if there == 0 {
		t.Error("none of them was a super")
	}
}

// picksIn holds Pick's answer of one super in its slot, and nothing in the other one.
func picksIn(t *testing.T, slot int, b []byte, want api.Super) {
	t.Helper()
	slots := [2][]byte{}
	slots[slot] = b
	picks(t, "one slot alone", slots[0], slots[1], want)
}

// P1: without a summer, all is answered for which nothing is summed.
func TestNoSummer(t *testing.T) {
	for _, x := range []api.Super{{}, {Pages: 1}, {Pages: 4097}, {Epoch: -1, Pages: 2}, {Epoch: 1 << 32, Pages: 2}, {Root: 1, Pages: 5}, {Free: 5, Pages: 5}} {
		if b, slot, e := Put(nil, x); b != nil || slot != 0 || e != api.ErrSuperForm {
			t.Errorf("Put of %v: %x, %d, %d", x, b, slot, e)
		}
	}
	for _, size := range []int{0, 1, 255, 257, 512} {
		for _, slot := range append([]int{0, 1}, noSlots...) {
			if x, e := Get(nil, slot, make([]byte, size)); x != (api.Super{}) || e != api.ErrPageForm {
				t.Errorf("Get of %d bytes in slot %d: %v, %d", size, slot, x, e)
			}
		}
		if x, e := Pick(nil, make([]byte, size), nil); x != (api.Super{}) || e != api.ErrSuperForm {
			t.Errorf("Pick of %d bytes: %v, %d", size, x, e)
		}
	}
}

// DOC.md's rules: what is handed in isn't changed, the spare room included, and that room tells nothing.
func TestHandedInStays(t *testing.T) {
	for _, mark := range []byte{0, 9, 255} {
		spare := bytes.Repeat([]byte{mark}, 300)
		a, b := append(put(t, plain(4)), spare...), append(put(t, plain(5)), spare...)
		wasA, wasB := bytes.Clone(a), bytes.Clone(b)
		gets(t, "bytes with spare room", 0, a[:256], plain(4))
		refuses(t, "bytes with spare room", 1, a[:256], api.ErrSuperForm)
		refuses(t, "bytes with spare room, cut", 0, a[:255], api.ErrPageForm)
		picks(t, "bytes with spare room", a[:256], b[:256], plain(5))
		picks(t, "bytes with spare room, cut", a[:256], b[:255], plain(4))
		picks(t, "bytes of which one is empty", a[:0], b[:256], plain(5))
		if !bytes.Equal(a, wasA) || !bytes.Equal(b, wasB) {
			t.Error("what was handed in is changed")
		}
	}
}

// DOC.md's rules: what is handed in isn't kept, and what is handed out is new memory.
func TestMemory(t *testing.T) {
	s := sum.New()
	first, _, _ := Put(s, plain(4))
	second, _, _ := Put(s, plain(4))
	was := bytes.Clone(second)
	clear(first[:cap(first)])
	if !bytes.Equal(second, was) {
		t.Error("one answer of Put changes another one")
	}
	x, _ := Get(s, 0, second)
	y, _ := Pick(s, second, nil)
	clear(second[:cap(second)])
	if x != plain(4) || y != plain(4) {
		t.Errorf("bytes that were changed afterwards are in %v, or in %v", x, y)
	}
	x.Root, y.Pages = 77, 78
	third, slot, e := Put(s, plain(4))
	if e != api.OK || slot != 0 || !bytes.Equal(third, was) {
		t.Errorf("the next answer of Put is another one: %x, %d, %d", third, slot, e)
	}
	if z, e := Get(s, 0, third); e != api.OK || z != plain(4) {
		t.Errorf("the next answer of Get is another one: %v, %d", z, e)
	}
	if z, e := Pick(s, third, third); e != api.OK || z != plain(4) {
		t.Errorf("the next answer of Pick is another one: %v, %d", z, e)
	}
}
