package free

import (
	"encoding/binary"
	"fmt"
	"maps"
	"math"
	"math/rand"
	"slices"
	"strings"
	"testing"

	"lunette/api"
)

const top = 1<<32 - 1

// list is a list of pages, each with the epoch behind it.
func list(pairs ...int) []api.Free {
	var l []api.Free
	for i := 0; i < len(pairs); i += 2 {
		l = append(l, api.Free{Page: pairs[i], Epoch: pairs[i+1]})
	}
	return l
}

// many is a list of so many pages that rise, with epochs from 0 to 4 among them.
func many(count int) []api.Free {
	var l []api.Free
	for i := range count {
		l = append(l, api.Free{Page: 2 + 3*i + i%2, Epoch: i * i % 5})
	}
	return l
}

// is holds a list that was answered against another one, nil and empty being one.
func is(t *testing.T, what string, got, want []api.Free) {
	t.Helper()
	if !slices.Equal(got, want) {
		t.Errorf("%s: %v, not %v", what, got, want)
	}
}

// mayBe is the chapter's words of a list: pages rise, each once, and pages and epochs are within their bounds.
func mayBe(l []api.Free) bool {
	for i, f := range l {
		if f.Page < 2 || f.Page > top || f.Epoch < 0 || f.Epoch > top {
			return false
		}
		for _, g := range l[:i] {
			if g.Page >= f.Page {
				return false
			}
		}
	}
	return true
}

// laid is a list's cells by the chapter's words: one behind the other, then 23 a page.
func laid(l []api.Free) [][]string {
	var cells []string
	for _, f := range l {
		b := binary.BigEndian.AppendUint32(nil, uint32(f.Page))
		cells = append(cells, string(binary.BigEndian.AppendUint32(b, uint32(f.Epoch))))
	}
	return slices.Collect(slices.Chunk(cells, 23))
}

// samePages is whether two lists of pages' cells are the same.
func samePages(a, b [][]string) bool {
	return slices.EqualFunc(a, b, func(x, y []string) bool { return slices.Equal(x, y) })
}

// checks holds Check's and Cells's answers of a list.
func checks(t *testing.T, what string, l []api.Free, want bool) {
	t.Helper()
	if got := Check(l); got != want {
		t.Errorf("Check of %s: %v", what, got)
	}
	c, e := Cells(l)
	if want && (e != api.OK || !samePages(c, laid(l))) {
		t.Errorf("Cells of %s: %q, %d", what, c, e)
	}
	if !want && (e != api.ErrFreeForm || c != nil) {
		t.Errorf("Cells of %s: %q, %d, not %d", what, c, e, api.ErrFreeForm)
	}
}

// tells holds Of's answer of cells that are a list's.
func tells(t *testing.T, what string, pages [][]string, want []api.Free) {
	t.Helper()
	l, e := Of(pages)
	if e != api.OK || !slices.Equal(l, want) {
		t.Errorf("Of %s: %v, %d, not %v", what, l, e, want)
	}
}

// refuses holds Of's answer of cells that are no list's.
func refuses(t *testing.T, what string, pages [][]string) {
	t.Helper()
	if l, e := Of(pages); e != api.ErrFreeForm || l != nil {
		t.Errorf("Of %s: %v, %d, not %d", what, l, e, api.ErrFreeForm)
	}
}

// The chapter's example.
func TestExample(t *testing.T) {
	l := []api.Free{{Page: 5, Epoch: 3}, {Page: 7, Epoch: 1}}
	if page, m, ok := Take(l, 2); page != 7 || !ok || !slices.Equal(m, list(5, 3)) {
		t.Error(page, m, ok)
	}
	if page, m, ok := Take(l, 3); page != 5 || !ok || !slices.Equal(m, list(7, 1)) {
		t.Error(page, m, ok)
	}
}

// P6.1, P6.2: lists that may be.
func TestLists(t *testing.T) {
	for _, l := range [][]api.Free{
		nil, {}, list(2, 0), list(2, top), list(top, 0), list(top, top), list(3, 1), list(top-1, top-1),
		list(2, 0, 3, 0), list(2, 5, 3, 5, 4, 5), list(2, 9, 7, 3, 8, 0), list(2, top, 3, 0, top-1, 0, top, top), list(1<<31-1, 1<<31, 1<<31, 1<<31-1),
		list(4095, 7, 4096, 7, 5000, 7), many(22), many(23), many(24), many(500),
	} {
		checks(t, fmt.Sprint(l), l, true)
	}
}

// P6.1, P6.2: pages and epochs at their bounds and beyond, wherever they stand.
func TestBounds(t *testing.T) {
	for _, x := range []struct {
		number      int
		page, epoch bool
	}{
		{math.MinInt, false, false}, {-1 << 32, false, false}, {-(1 << 32) + 5, false, false}, {-1, false, false}, {0, false, true}, {1, false, true}, {2, true, true},
		{1<<32 - 1, true, true}, {1 << 32, false, false}, {1<<32 + 1, false, false}, {1<<32 + 5, false, false}, {math.MaxInt, false, false},
	} {
		checks(t, fmt.Sprintf("page %d alone", x.number), list(x.number, 4), x.page)
		checks(t, fmt.Sprintf("epoch %d alone", x.number), list(4, x.number), x.epoch)
		for at := range 30 {
			l := many(30)
			l[at].Epoch = x.number
			checks(t, fmt.Sprintf("epoch %d at %d", x.number, at), l, x.epoch)
			l = many(30)
			l[at].Page = x.number
			checks(t, fmt.Sprintf("page %d at %d", x.number, at), l, mayBe(l))
		}
		below, above := list(x.number, 4, top, 4), list(2, 4, x.number, 4)
		checks(t, fmt.Sprintf("page %d first", x.number), below, x.page && x.number < top)
		checks(t, fmt.Sprintf("page %d last", x.number), above, x.page && x.number > 2)
	}
}

// P6.1, P6.2: pages that don't rise, or that are there twice.
func TestNoRise(t *testing.T) {
	for _, l := range [][]api.Free{
		list(3, 0, 3, 0), list(3, 0, 3, 1), list(4, 0, 3, 0), list(3, 0, 2, 0), list(top, 0, 2, 0), list(top, 1, top, 0),
		list(2, 0, 3, 0, 3, 0), list(2, 0, 2, 0, 3, 0), list(2, 0, 4, 0, 3, 0), list(3, 0, 2, 0, 4, 0), list(2, 0, 3, 0, 2, 0), list(5, 0, 7, 0, 6, 0, 8, 0),
	} {
		checks(t, fmt.Sprint(l), l, false)
	}
	for at := range 49 {
		twice, turned := many(50), many(50)
		twice[at+1].Page = twice[at].Page
		turned[at], turned[at+1] = turned[at+1], turned[at]
		checks(t, fmt.Sprintf("a page twice at %d", at), twice, false)
		checks(t, fmt.Sprintf("pages that fall at %d", at), turned, false)
	}
}

// P6.1: Put ahead of all, between any two, behind all, and of a page that is there.
func TestPut(t *testing.T) {
	l := list(4, 5, 7, 2, 9, 2)
	for _, x := range []struct {
		page, epoch int
		want        []api.Free
	}{
		{2, 8, list(2, 8, 4, 5, 7, 2, 9, 2)}, {3, 0, list(3, 0, 4, 5, 7, 2, 9, 2)},
		{5, 1, list(4, 5, 5, 1, 7, 2, 9, 2)}, {6, 9, list(4, 5, 6, 9, 7, 2, 9, 2)}, {8, top, list(4, 5, 7, 2, 8, top, 9, 2)},
		{10, 3, list(4, 5, 7, 2, 9, 2, 10, 3)}, {top, 0, list(4, 5, 7, 2, 9, 2, top, 0)},
		{4, 6, list(4, 6, 7, 2, 9, 2)}, {7, 0, list(4, 5, 7, 0, 9, 2)}, {9, 1, list(4, 5, 7, 2, 9, 1)}, {4, 5, l},
	} {
		is(t, fmt.Sprintf("Put of %d, %d", x.page, x.epoch), Put(l, x.page, x.epoch), x.want)
	}
	is(t, "what Put was handed", l, list(4, 5, 7, 2, 9, 2))
	for _, none := range [][]api.Free{nil, {}} {
		is(t, "Put to no page", Put(none, 2, 0), list(2, 0))
	}
	is(t, "Put ahead of one", Put(list(3, 1), 2, 2), list(2, 2, 3, 1))
	is(t, "Put behind one", Put(list(3, 1), 4, 2), list(3, 1, 4, 2))
	is(t, "Put in place of one", Put(list(3, 1), 3, 2), list(3, 2))
}

// P6.1: each place of lists of each length.
func TestPutAnywhere(t *testing.T) {
	for count := range 30 {
		l := many(count)
		for page := 2; page < 3*count+6; page++ {
			epochs := map[int]int{page: 77}
			for _, f := range l {
				if f.Page != page {
					epochs[f.Page] = f.Epoch
				}
			}
			is(t, fmt.Sprintf("Put of %d to %d", page, count), Put(l, page, 77), listOf(epochs))
		}
	}
}

// listOf is the list of pages with their epochs.
func listOf(epochs map[int]int) []api.Free {
	var l []api.Free
	for _, page := range slices.Sorted(maps.Keys(epochs)) {
		l = append(l, api.Free{Page: page, Epoch: epochs[page]})
	}
	return l
}

// P6.1: Take and Usable for oldest ones below all epochs, equal to one, between them, and above all.
func TestTake(t *testing.T) {
	l := list(4, 5, 7, 2, 9, 2, 12, 0, 13, 8)
	for _, x := range []struct {
		oldest, page, usable int
		want                 []api.Free
	}{
		{math.MinInt, 0, 0, l}, {-1, 0, 0, l},
		{0, 12, 1, list(4, 5, 7, 2, 9, 2, 13, 8)}, {1, 12, 1, list(4, 5, 7, 2, 9, 2, 13, 8)},
		{2, 7, 3, list(4, 5, 9, 2, 12, 0, 13, 8)}, {3, 7, 3, list(4, 5, 9, 2, 12, 0, 13, 8)}, {4, 7, 3, list(4, 5, 9, 2, 12, 0, 13, 8)},
		{5, 4, 4, list(7, 2, 9, 2, 12, 0, 13, 8)}, {7, 4, 4, list(7, 2, 9, 2, 12, 0, 13, 8)},
		{8, 4, 5, list(7, 2, 9, 2, 12, 0, 13, 8)}, {9, 4, 5, list(7, 2, 9, 2, 12, 0, 13, 8)}, {math.MaxInt, 4, 5, list(7, 2, 9, 2, 12, 0, 13, 8)},
	} {
		takes(t, l, x.oldest, x.page, x.want)
		if n := Usable(l, x.oldest); n != x.usable {
			t.Errorf("Usable for %d: %d, not %d", x.oldest, n, x.usable)
		}
	}
	is(t, "what Take was handed", l, list(4, 5, 7, 2, 9, 2, 12, 0, 13, 8))
}

// takes holds Take's answer: 0 is no page.
func takes(t *testing.T, l []api.Free, oldest, page int, want []api.Free) {
	t.Helper()
	got, m, ok := Take(l, oldest)
	if got != page || ok != (page != 0) || !slices.Equal(m, want) {
		t.Errorf("Take of %v for %d: %d, %v, %v, not %d, %v", l, oldest, got, m, ok, page, want)
	}
}

// P6.1: Take and Usable of no page, and of one.
func TestTakeOfFew(t *testing.T) {
	for _, oldest := range []int{math.MinInt, -1, 0, 1, top, math.MaxInt} {
		for _, none := range [][]api.Free{nil, {}} {
			takes(t, none, oldest, 0, nil)
			if n := Usable(none, oldest); n != 0 {
				t.Errorf("Usable of none for %d: %d", oldest, n)
			}
		}
	}
	for _, epoch := range []int{0, 1, 6, top} {
		one := list(3, epoch)
		takes(t, one, epoch-1, 0, one)
		takes(t, one, epoch, 3, nil)
		takes(t, one, epoch+1, 3, nil)
		if a, b, c := Usable(one, epoch-1), Usable(one, epoch), Usable(one, epoch+1); a != 0 || b != 1 || c != 1 {
			t.Errorf("Usable of epoch %d: %d, %d, %d", epoch, a, b, c)
		}
	}
}

// P6.1: all pages that may be used, taken one by one: they rise, and what stays is the rest.
func TestTakeAll(t *testing.T) {
	for count := range 60 {
		for oldest := -1; oldest < 6; oldest++ {
			var pages, rest []api.Free
			for _, f := range many(count) {
				if f.Epoch <= oldest {
					pages = append(pages, f)
				} else {
					rest = append(rest, f)
				}
			}
			l := many(count)
			for i, f := range pages {
				if n := Usable(l, oldest); n != len(pages)-i {
					t.Fatalf("Usable of %v for %d: %d, not %d", l, oldest, n, len(pages)-i)
				}
				want := slices.DeleteFunc(slices.Clone(l), func(g api.Free) bool { return g == f })
				takes(t, l, oldest, f.Page, want)
				_, l, _ = Take(l, oldest)
			}
			takes(t, l, oldest, 0, rest)
			if n := Usable(l, oldest); n != 0 {
				t.Fatalf("Usable of %v for %d: %d", l, oldest, n)
			}
		}
	}
}

// P6.1, P6.2: lists, put to and taken from at random, are maps of their pages, and their cells are theirs.
func TestAsMap(t *testing.T) {
	r := rand.New(rand.NewSource(6))
	for range 40 {
		epochs, l := map[int]int{}, []api.Free(nil)
		for range 200 {
			page, epoch, oldest := 2+r.Intn(90), r.Intn(10), r.Intn(12)-1
			if r.Intn(3) > 0 {
				epochs[page], l = epoch, Put(l, page, epoch)
			} else {
				least, usable := leastOf(epochs, oldest)
				if n := Usable(l, oldest); n != usable {
					t.Fatalf("Usable of %v for %d: %d, not %d", l, oldest, n, usable)
				}
				delete(epochs, least)
				takes(t, l, oldest, least, listOf(epochs))
				_, l, _ = Take(l, oldest)
			}
			is(t, "a list, as a map", l, listOf(epochs))
			checks(t, fmt.Sprint(l), l, true)
			tells(t, fmt.Sprint(l), laid(l), l)
		}
	}
}

// leastOf is the least page whose epoch is at most the oldest one, or 0, and how many such there are.
func leastOf(epochs map[int]int, oldest int) (least, count int) {
	for page, epoch := range epochs {
		if epoch > oldest {
			continue
		}
		count++
		if least == 0 || page < least {
			least = page
		}
	}
	return least, count
}

// P6.2: cells, byte by byte.
func TestCellsByHand(t *testing.T) {
	for _, x := range []struct {
		l    []api.Free
		cell string
	}{
		{list(2, 0), "\x00\x00\x00\x02\x00\x00\x00\x00"},
		{list(4, 5), "\x00\x00\x00\x04\x00\x00\x00\x05"},
		{list(255, 256), "\x00\x00\x00\xff\x00\x00\x01\x00"},
		{list(0x01020304, 0x05060708), "\x01\x02\x03\x04\x05\x06\x07\x08"},
		{list(0xfffefdfc, 0x80000000), "\xff\xfe\xfd\xfc\x80\x00\x00\x00"},
		{list(0x00010000, top), "\x00\x01\x00\x00\xff\xff\xff\xff"},
		{list(top, 1), "\xff\xff\xff\xff\x00\x00\x00\x01"},
	} {
		c, e := Cells(x.l)
		if e != api.OK || !samePages(c, [][]string{{x.cell}}) {
			t.Errorf("Cells of %v: %q, %d, not %q", x.l, c, e, x.cell)
		}
		tells(t, fmt.Sprintf("%q", x.cell), [][]string{{x.cell}}, x.l)
	}
}

// P6.2: cells of no page, of as many as fit onto one, two or three pages of the disk, and one less and more.
func TestCellsOfMany(t *testing.T) {
	for _, x := range []struct {
		count int
		sizes []int
	}{
		{0, nil}, {1, []int{1}}, {2, []int{2}}, {22, []int{22}}, {23, []int{23}}, {24, []int{23, 1}}, {25, []int{23, 2}}, {45, []int{23, 22}}, {46, []int{23, 23}}, {47, []int{23, 23, 1}},
		{69, []int{23, 23, 23}}, {70, []int{23, 23, 23, 1}}, {4094, slices.Repeat([]int{23}, 178)},
	} {
		l := many(x.count)
		c, e := Cells(l)
		if e != api.OK || !samePages(c, laid(l)) {
			t.Errorf("Cells of %d: %q, %d", x.count, c, e)
		}
		var sizes []int
		for _, cells := range c {
			sizes = append(sizes, len(cells))
		}
		if !slices.Equal(sizes, x.sizes) {
			t.Errorf("Cells of %d: %v a page, not %v", x.count, sizes, x.sizes)
		}
		tells(t, fmt.Sprintf("the cells of %d", x.count), c, l)
	}
	for _, none := range [][]api.Free{nil, {}} {
		if c, e := Cells(none); len(c) != 0 || e != api.OK {
			t.Errorf("Cells of none: %q, %d", c, e)
		}
	}
	for _, none := range [][][]string{nil, {}} {
		tells(t, "no pages", none, nil)
	}
}

// P6.2: a page of too few cells, or too many.
func TestOfPagesThatArentFull(t *testing.T) {
	cells := slices.Concat(laid(many(120))...)
	refuses(t, "a page of none", [][]string{{}})
	refuses(t, "a page of nil", [][]string{nil})
	refuses(t, "two pages of none", [][]string{{}, {}})
	for first := range 50 {
		for second := range 50 {
			pages := [][]string{cells[:first], cells[first : first+second]}
			what := fmt.Sprintf("pages of %d and %d", first, second)
			if first == 23 && second > 0 && second <= 23 {
				tells(t, what, pages, many(120)[:first+second])
			} else {
				refuses(t, what, pages)
			}
		}
		if first > 0 && first <= 23 {
			tells(t, fmt.Sprintf("a page of %d", first), [][]string{cells[:first]}, many(120)[:first])
		} else {
			refuses(t, fmt.Sprintf("a page of %d", first), [][]string{cells[:first]})
		}
	}
	for _, sizes := range [][]int{{23, 22, 23}, {22, 23, 23}, {23, 24, 23}, {24, 22, 23}, {23, 23, 24}, {23, 23, 0}, {23, 0, 23}, {0, 23, 23}, {23, 23, 23, 0}, {1, 23, 23}, {23, 1, 23}} {
		var pages [][]string
		at := 0
		for _, n := range sizes {
			pages = append(pages, cells[at:at+n])
			at += n
		}
		refuses(t, fmt.Sprintf("pages of %v", sizes), pages)
	}
}

// P6.2: a cell of fewer bytes than eight, or of more, wherever it stands.
func TestOfCellsOfOtherLength(t *testing.T) {
	for size := range 30 {
		if size != 8 {
			refuses(t, fmt.Sprintf("a cell of %d bytes", size), [][]string{{strings.Repeat("\x01", size)}})
		}
	}
	for at := range 47 {
		for what, turned := range map[string]func(cell string) string{
			"none":  func(string) string { return "" },
			"seven": func(cell string) string { return cell[:7] },
			"nine":  func(cell string) string { return cell + "\x00" },
			"less":  func(cell string) string { return cell[1:] },
			"more":  func(cell string) string { return "\x00" + cell },
			"two":   func(cell string) string { return cell + cell },
		} {
			pages := laid(many(47))
			pages[at/23][at%23] = turned(pages[at/23][at%23])
			refuses(t, fmt.Sprintf("cells with one of %s bytes at %d", what, at), pages)
		}
	}
	refuses(t, "a cell that is short beside one that is long", [][]string{{"\x00\x00\x00\x02\x00\x00\x00", "\x00\x00\x00\x00\x03\x00\x00\x00\x00"}})
}

// P6.2: cells of pages that don't rise, or that are below 2.
func TestOfCellsOfNoList(t *testing.T) {
	for _, l := range [][]api.Free{
		list(0, 0), list(1, 0), list(0, 7), list(1, top), list(0, 0, 2, 0), list(1, 0, 2, 0), list(3, 0, 3, 0), list(3, 0, 3, 1), list(4, 0, 3, 0),
		list(2, 0, 1, 0), list(top, 0, top, 0), list(top, 0, 2, 0), list(2, 0, 4, 0, 3, 0), list(2, 0, 3, 0, 0, 0),
	} {
		refuses(t, fmt.Sprint("the cells of ", l), laid(l))
	}
	for at := range 49 {
		twice, turned := many(50), many(50)
		twice[at+1].Page = twice[at].Page
		turned[at], turned[at+1] = turned[at+1], turned[at]
		refuses(t, fmt.Sprintf("a page twice at %d", at), laid(twice))
		refuses(t, fmt.Sprintf("pages that fall at %d", at), laid(turned))
	}
}

// P6.2: of cells of any bytes, Of answers the list whose cells they are, or nothing.
func TestOddCells(t *testing.T) {
	r := rand.New(rand.NewSource(62))
	lists := 0
	for range 20000 {
		pages := laid(many(r.Intn(50)))
		if len(pages) > 0 {
			cells := pages[r.Intn(len(pages))]
			cell := []byte(cells[r.Intn(len(cells))])
			cell[r.Intn(8)] ^= byte(1 << r.Intn(8))
			cells[r.Intn(len(cells))] = string(cell)
		}
		want, may := read(pages)
		if may {
			lists++
			tells(t, fmt.Sprintf("%q", pages), pages, want)
		} else {
			refuses(t, fmt.Sprintf("%q", pages), pages)
		}
	}
	if lists < 1000 || lists > 19000 {
		t.Errorf("of 20000, %d are lists' cells", lists)
	}
}

// read is the list of cells by the chapter's words: that whose cells they are.
func read(pages [][]string) ([]api.Free, bool) {
	var l []api.Free
	for _, cells := range pages {
		for _, c := range cells {
			l = append(l, api.Free{Page: int(binary.BigEndian.Uint32([]byte(c[:4]))), Epoch: int(binary.BigEndian.Uint32([]byte(c[4:])))})
		}
	}
	return l, mayBe(l) && samePages(laid(l), pages)
}

// P6.3: all there once, one missing, one twice, and one that isn't the disk's.
func TestCover(t *testing.T) {
	l := list(4, 5, 7, 2, 9, 2)
	used := []int{8, 2, 6, 3, 5}
	for _, x := range []struct {
		what  string
		l     []api.Free
		used  []int
		pages int
		want  bool
	}{
		{"all once", l, used, 10, true},
		{"all once, used in order", l, []int{2, 3, 5, 6, 8}, 10, true},
		{"all free", list(2, 0, 3, 7, 4, 1), nil, 5, true},
		{"all used", nil, []int{4, 3, 2}, 5, true},
		{"one page, free", list(2, 9), nil, 3, true},
		{"one page, used", nil, []int{2}, 3, true},
		{"the first one missing", l, []int{3, 5, 6, 8}, 10, false},
		{"one missing between", l, []int{2, 3, 5, 8}, 10, false},
		{"the last one missing", l, used, 11, false},
		{"a free one missing", list(4, 5, 9, 2), used, 10, false},
		{"the one page missing", nil, nil, 3, false},
		{"two missing", nil, nil, 4, false},
		{"one twice in the list", list(4, 5, 7, 2, 7, 3, 9, 2), used, 10, false},
		{"one twice in used", l, []int{8, 2, 6, 3, 5, 6}, 10, false},
		{"one once in each", l, []int{8, 2, 6, 3, 5, 7}, 10, false},
		{"one twice in the list, one missing", list(4, 5, 4, 5, 9, 2), used, 10, false},
		{"one twice in used, one missing", l, []int{8, 2, 6, 6, 5}, 10, false},
		{"one once in each, one missing", l, []int{8, 2, 6, 9, 5}, 10, false},
		{"one three times", l, []int{8, 2, 6, 3, 5, 4, 4}, 10, false},
		{"0 in used", l, []int{8, 2, 6, 3, 5, 0}, 10, false},
		{"1 in used", l, []int{8, 2, 6, 3, 5, 1}, 10, false},
		{"one below 0 in used", l, []int{8, 2, 6, 3, 5, -1}, 10, false},
		{"pages in used", l, []int{8, 2, 6, 3, 5, 10}, 10, false},
		{"one above pages in used", l, []int{8, 2, 6, 3, 5, 11}, 10, false},
		{"0 in the list", list(0, 0, 4, 5, 7, 2, 9, 2), used, 10, false},
		{"1 in the list", list(1, 0, 4, 5, 7, 2, 9, 2), used, 10, false},
		{"one below 0 in the list", list(-5, 0, 4, 5, 7, 2, 9, 2), used, 10, false},
		{"pages in the list", list(4, 5, 7, 2, 9, 2, 10, 0), used, 10, false},
		{"one above pages in the list", list(4, 5, 7, 2, 9, 2, 12, 0), used, 10, false},
		{"1 in place of one", l, []int{8, 2, 6, 3, 1}, 10, false},
		{"0 in place of one", l, []int{8, 2, 6, 3, 0}, 10, false},
		{"one below 0 in place of one", l, []int{8, 2, 6, 3, -5}, 10, false},
		{"pages in place of one", l, []int{8, 2, 6, 3, 10}, 10, false},
		{"the greatest in place of one", l, []int{8, 2, 6, 3, math.MaxInt}, 10, false},
		{"the least in place of one", l, []int{8, 2, 6, 3, math.MinInt}, 10, false},
		{"fewer pages", l, used, 9, false},
		{"pages that fall in the list", list(9, 2, 4, 5, 7, 2), used, 10, true},
		{"epochs that may not be", list(4, -1, 7, top+1, 9, math.MinInt), used, 10, true},
	} {
		if got := Cover(x.l, x.used, x.pages); got != x.want {
			t.Errorf("Cover, %s: %v", x.what, got)
		}
	}
}

// P6.3: of 0, 1 and 2 pages, and fewer than none, there is none from 2 on; of more pages than can be gone through, some are missing.
func TestCoverOfFewAndOfHugeDisks(t *testing.T) {
	for _, pages := range []int{math.MinInt, math.MinInt + 1, math.MinInt + 2, math.MinInt + 3, -1 << 32, -3, -2, -1, 0, 1, 2} {
		if !Cover(nil, nil, pages) || !Cover([]api.Free{}, []int{}, pages) {
			t.Errorf("Cover of %d pages, with none: false", pages)
		}
		for _, no := range []int{math.MinInt, pages - 1, pages, -2, -1, 0, 1, 2, 3, math.MaxInt} {
			if Cover(list(no, 0), nil, pages) || Cover(nil, []int{no}, pages) {
				t.Errorf("Cover of %d pages, with %d: true", pages, no)
			}
		}
	}
	for _, pages := range []int{3, 4, 1 << 31, 1 << 32, 1 << 50, math.MaxInt - 1, math.MaxInt} {
		if Cover(nil, nil, pages) || Cover(list(pages-1, 0), nil, pages) && pages != 3 || Cover(list(3, 0), []int{5}, pages) {
			t.Errorf("Cover of %d pages, with few: true", pages)
		}
	}
}

// P6.3: of any few numbers in the list and in used, Cover is as the words say.
func TestCoverOfAny(t *testing.T) {
	for code := range 6 * 6 * 6 * 6 {
		numbers := []int{code % 6, code / 6 % 6, code / 36 % 6, code / 216 % 6}
		for free := range 5 {
			for used := free; used < 5; used++ {
				var l []api.Free
				for _, no := range numbers[:free] {
					l = append(l, api.Free{Page: no, Epoch: no})
				}
				for pages := -1; pages < 8; pages++ {
					want := covers(numbers[:used], pages)
					if got := Cover(l, numbers[free:used], pages); got != want {
						t.Fatalf("Cover of %v, %v, %d: %v", l, numbers[free:used], pages, got)
					}
				}
			}
		}
	}
}

// covers is the promise's words: each number from 2 on, below pages, is there once, and no other.
func covers(numbers []int, pages int) bool {
	var want []int
	for no := 2; no < pages; no++ {
		want = append(want, no)
	}
	return slices.Equal(slices.Sorted(slices.Values(numbers)), want)
}

// P6.3: a whole disk, cut anyhow in free and used pages, is covered; with one page more, less or turned it isn't.
func TestCoverOfWholeDisks(t *testing.T) {
	r := rand.New(rand.NewSource(63))
	for range 300 {
		pages := 3 + r.Intn(200)
		var l []api.Free
		var used []int
		for no := 2; no < pages; no++ {
			if r.Intn(2) == 0 {
				l = append(l, api.Free{Page: no, Epoch: r.Intn(9)})
			} else {
				used = append(used, no)
			}
		}
		r.Shuffle(len(used), func(i, j int) { used[i], used[j] = used[j], used[i] })
		if !Cover(l, used, pages) || Cover(l, used, pages+1) || Cover(l, used, pages-1) {
			t.Errorf("Cover of %v, %v, %d", l, used, pages)
		}
		for no := -1; no < pages+2; no++ {
			if Cover(append(slices.Clone(l), api.Free{Page: no}), used, pages) || Cover(l, append(slices.Clone(used), no), pages) {
				t.Errorf("Cover of %v, %v, %d, with %d more", l, used, pages, no)
			}
		}
		for i, no := range used {
			if Cover(l, slices.Delete(slices.Clone(used), i, i+1), pages) {
				t.Errorf("Cover of %v, %v, %d, without %d", l, used, pages, no)
			}
		}
		for i, f := range l {
			if Cover(slices.Delete(slices.Clone(l), i, i+1), used, pages) {
				t.Errorf("Cover of %v, %v, %d, without %v", l, used, pages, f)
			}
		}
	}
}

// odd is lists of up to three pages, of all mixes of numbers at the edges: most of them may not be.
func odd() [][]api.Free {
	numbers := []int{math.MinInt, -1, 0, 1, 2, 3, top, 1 << 32, math.MaxInt}
	lists := [][]api.Free{nil}
	for _, a := range numbers {
		for _, b := range numbers {
			lists = append(lists, list(a, b))
			for _, c := range numbers {
				lists = append(lists, list(a, 0, b, c), list(a, c, b, 0), list(a, 1, b, 0, c, 2))
			}
		}
	}
	return lists
}

// P1, P6.1, P6.2: of all lists, each call ends, Check is as the words say, and Cells answers nothing beside an error.
func TestOddLists(t *testing.T) {
	numbers := []int{math.MinInt, -1, 0, 1, 2, 3, top, 1 << 32, math.MaxInt}
	for _, l := range odd() {
		may := mayBe(l)
		checks(t, fmt.Sprint(l), l, may)
		for _, x := range numbers {
			page, rest, ok := Take(l, x)
			if n := Usable(l, x); n < 0 || n > len(l) || ok != (n > 0) || ok && len(rest) != len(l)-1 {
				t.Errorf("%v for %d: %d may be used; %d, %v, %v is taken", l, x, n, page, rest, ok)
			}
			if !ok && (page != 0 || !slices.Equal(rest, l)) {
				t.Errorf("Take of %v for %d: %d, %v, false", l, x, page, rest)
			}
			Cover(l, numbers, x)
			for _, epoch := range numbers {
				if m := Put(l, x, epoch); !slices.Contains(m, api.Free{Page: x, Epoch: epoch}) || may && Check(m) != mayBe(list(x, epoch)) {
					t.Errorf("Put of %d, %d to %v: %v", x, epoch, l, m)
				}
			}
		}
	}
}

// told is all that the calls answer of a list.
func told(l []api.Free) string {
	var b strings.Builder
	fmt.Fprint(&b, Check(l))
	c, e := Cells(l)
	fmt.Fprintf(&b, " %q %d", c, e)
	for x := -1; x < 12; x++ {
		page, rest, ok := Take(l, x)
		fmt.Fprint(&b, Put(l, x, x+1), page, rest, ok, Usable(l, x), Cover(l, []int{2, x}, x))
	}
	return b.String()
}

// roomy is a list with spare room behind it, and the whole of it.
func roomy[T any](list []T, mark T) (short, whole []T) {
	whole = slices.Concat(list, []T{mark, mark, mark})
	return whole[:len(list)], whole
}

// LANGUAGE.md's fifth: what is answered hangs on no capacity; and DOC.md's rules: nil and empty are one.
func TestSpareRoomTellsNothing(t *testing.T) {
	for _, l := range append(odd(), many(23), many(24), many(46)) {
		for _, mark := range []api.Free{{}, {Page: 3, Epoch: 1}, {Page: 500, Epoch: 0}} {
			short, whole := roomy(l, mark)
			was := slices.Clone(whole)
			if told(short) != told(slices.Clip(slices.Clone(l))) {
				t.Errorf("with spare room, %v answers otherwise", l)
			}
			is(t, "what was handed in, with its spare room", whole, was)
		}
	}
	if told(nil) != told([]api.Free{}) {
		t.Error("nil and empty aren't one")
	}
	pages, wholePages := roomy(laid(many(24)), []string{"mark"})
	cells, wholeCells := roomy(pages[1], "mark")
	pages[1] = cells
	tells(t, "cells with spare room", pages, many(24))
	if len(cells) != 1 || !slices.Equal(wholeCells[1:], []string{"mark", "mark", "mark"}) || !samePages(wholePages[:2], laid(many(24))) || len(wholePages[2]) != 1 {
		t.Error("Of changes the spare room of what it is handed")
	}
	used, wholeUsed := roomy([]int{8, 2, 6, 3, 5}, 7)
	if !Cover(list(4, 5, 7, 2, 9, 2), used, 10) || !slices.Equal(wholeUsed, []int{8, 2, 6, 3, 5, 7, 7, 7}) {
		t.Error("Cover reads, or changes, the spare room of what it is handed")
	}
}

// spoil turns all items of a list, with their spare room.
func spoil[T any](list []T, mark T) {
	for i := range list[:cap(list)] {
		list[:cap(list)][i] = mark
	}
}

// DOC.md's rules: what is handed in is neither changed nor kept, what is handed out is new memory.
func TestMemoryOfLists(t *testing.T) {
	mark := api.Free{Page: 99, Epoch: 98}
	acts := map[string]func(l []api.Free) []api.Free{
		"Put ahead":    func(l []api.Free) []api.Free { return Put(l, 2, 7) },
		"Put between":  func(l []api.Free) []api.Free { return Put(l, 6, 7) },
		"Put behind":   func(l []api.Free) []api.Free { return Put(l, 2000, 7) },
		"Put in place": func(l []api.Free) []api.Free { return Put(l, 5, 7) },
		"Take": func(l []api.Free) []api.Free {
			_, rest, _ := Take(l, 0)
			return rest
		},
		"Take of any": func(l []api.Free) []api.Free {
			_, rest, _ := Take(l, top)
			return rest
		},
		"Take of none": func(l []api.Free) []api.Free {
			_, rest, _ := Take(l, -1)
			return rest
		},
	}
	for what, act := range acts {
		for _, l := range [][]api.Free{nil, list(5, 1), list(5, 0), list(5, 1, 9, 0), list(4, 3, 5, 0, 7, 0), many(40)} {
			short, whole := roomy(l, mark)
			was := slices.Clone(whole)
			got := act(short)
			is(t, what+" changes what it is handed", whole, was)
			want := slices.Clone(got)
			spoil(whole, api.Free{Page: 1, Epoch: 1})
			is(t, what+", behind a change of what it was handed", got, want)
			copy(whole, was)
			spoil(got, api.Free{Page: 3, Epoch: 3})
			is(t, what+" hands out what it was handed", whole, was)
			is(t, what+", once more", act(short), want)
		}
	}
}

// DOC.md's rules, for cells: no two pages' cells share memory, neither with what was handed in.
func TestMemoryOfCells(t *testing.T) {
	l := many(70)
	got, _ := Cells(l)
	want := laid(l)
	spoil(l, api.Free{Page: 1, Epoch: 1})
	if !samePages(got, want) {
		t.Error("Cells keeps what it was handed")
	}
	for i := range got {
		spoil(got[i], "spoilt")
		got[i], want[i] = nil, nil
		if !samePages(got, want) {
			t.Errorf("the cells of page %d stand in another one's memory", i)
		}
	}
	if c, e := Cells(many(70)); e != api.OK || !samePages(c, laid(many(70))) {
		t.Error("Cells keeps what it handed out")
	}
	pages := laid(many(70))
	told, e := Of(pages)
	spoil(told, api.Free{Page: 1, Epoch: 1})
	if e != api.OK || !samePages(pages, laid(many(70))) {
		t.Error("Of changes, or hands out, what it was handed")
	}
	told, _ = Of(pages)
	for i := range pages {
		spoil(pages[i], "spoilt")
	}
	spoil(pages, []string{"spoilt"})
	is(t, "Of, behind a change of what it was handed", told, many(70))
}
