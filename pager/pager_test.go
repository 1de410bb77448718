package pager

import (
	"encoding/binary"
	"hash/crc32"
	"math"
	"slices"
	"strings"
	"testing"

	"lunette/api"
)

// The chapter's example.
func TestExample(t *testing.T) {
	d, p := fresh(t, 8)
	tells(t, "a fresh disk", p, anew)
	makes(t, p, 2, "a")
	commits(t, p, 2)
	tells(t, "page 2 told", p, state{super: api.Super{Epoch: 2, Root: 2, Pages: 3}, pages: 3})
	changes(t, p, 2, 3, "b")
	commits(t, p, 3)
	want := state{super: api.Super{Epoch: 3, Root: 3, Free: 4, Pages: 5}, free: list(2, 3), chain: []int{4}, pages: 5}
	tells(t, "page 3 told", p, want)
	tells(t, "opened again", opened(t, d), want)
}

// odd is numbers that are no page's, with such among them as are one's if only some of their bits are asked.
var odd = []int{math.MinInt, math.MinInt + 2, -1 << 32, 2 - 1<<32, -4096, -2, -1, 0, 1, 4096, 1 << 16, top, 1 << 32, 1<<32 + 2, math.MaxInt}

// P8.2: which pages are there, and which aren't.
func TestRead(t *testing.T) {
	d, p := fresh(t, 20)
	readsNone(t, "of none", p, 2, api.ErrPagerPage)
	makes(t, p, 2, "a", "", "b")
	if no, e := p.New(255, top, nil); no != 3 || e != api.OK {
		t.Fatal(no, e)
	}
	reads(t, p, api.Page{Kind: 1, No: 2, Epoch: 2, Cells: []string{"a", "", "b"}})
	reads(t, p, api.Page{Kind: 255, No: 3, Epoch: 2, Link: top})
	for range 2 {
		for _, no := range append(odd, 4, 5, 19, 20) {
			readsNone(t, "that isn't there", p, no, api.ErrPagerPage)
		}
		commits(t, p, 3)
	}
	// The disk is longer; nothing else is.
	be(t, "Grow", d.Grow(10), api.OK)
	readsNone(t, "that the disk has", p, 4, api.ErrPagerPage)
	// A free page can be read as long as it isn't taken; a dead disk is read, too.
	drops(t, p, 3)
	reads(t, p, api.Page{Kind: 255, No: 3, Epoch: 2, Link: top})
	d.Fuse(0)
	reads(t, p, api.Page{Kind: 1, No: 2, Epoch: 2, Cells: []string{"a", "", "b"}})
}

// P8.2: pages that were turned, that are none, that tell another number.
func TestReadOfTurned(t *testing.T) {
	d, p := fresh(t, 20)
	makes(t, p, 2, "abc")
	makes(t, p, 3, "x")
	commits(t, p, 2)
	good, _ := d.Read(2)
	for at := range 256 {
		for _, x := range []byte{1, 128, 255} {
			be(t, "Spoil", d.Spoil(2, at, []byte{good[at] ^ x}), api.OK)
			readsNone(t, "turned", p, 2, api.ErrPageSum)
			be(t, "Spoil", d.Spoil(2, at, good[at:at+1]), api.OK)
		}
	}
	reads(t, p, api.Page{Kind: 1, No: 2, Epoch: 2, Cells: []string{"abc"}})
	noughts := binary.BigEndian.AppendUint32(make([]byte, 252), crc32.ChecksumIEEE(make([]byte, 252)))
	writes(t, d, 2, noughts)
	readsNone(t, "with its sum", p, 2, api.ErrPageForm)
	writes(t, d, 2, make([]byte, 256))
	readsNone(t, "noughts", p, 2, api.ErrPageSum)
	for _, no := range []int{0, 1, 3, 4, 258, 1<<16 + 2, top} {
		writes(t, d, 2, bytesOf(t, api.Page{Kind: 1, No: no, Epoch: 2, Cells: []string{"abc"}}))
		readsNone(t, "of another number", p, 2, api.ErrPageForm)
	}
	writes(t, d, 2, good)
	reads(t, p, api.Page{Kind: 1, No: 2, Epoch: 2, Cells: []string{"abc"}})
	reads(t, p, api.Page{Kind: 1, No: 3, Epoch: 2, Cells: []string{"x"}})
}

// wrong is what no page has, and chapter 4's error of it: the error named first, where both apply.
var wrong = []struct {
	what       string
	kind, link int
	cells      []string
	want       api.Errno
}{
	{"119 cells", 1, 0, make([]string, 119), api.ErrPageLong},
	{"a cell of 235 bytes", 1, 0, []string{strings.Repeat("x", 235)}, api.ErrPageLong},
	{"cells of 237 bytes", 1, 0, []string{strings.Repeat("x", 200), strings.Repeat("y", 33)}, api.ErrPageLong},
	{"many cells", 1, 0, make([]string, 100000), api.ErrPageLong},
	{"kind 0", 0, 0, nil, api.ErrPageForm},
	{"kind -1", -1, 0, nil, api.ErrPageForm},
	{"kind 256", 256, 0, nil, api.ErrPageForm},
	{"kind 257", 257, 0, nil, api.ErrPageForm},
	{"the least kind", math.MinInt, 0, nil, api.ErrPageForm},
	{"the greatest kind", math.MaxInt, 0, nil, api.ErrPageForm},
	{"link -1", 1, -1, nil, api.ErrPageForm},
	{"link 2^32", 1, 1 << 32, nil, api.ErrPageForm},
	{"the least link", 1, math.MinInt, nil, api.ErrPageForm},
	{"the greatest link", 1, math.MaxInt, nil, api.ErrPageForm},
	{"119 cells of kind 0", 0, 0, make([]string, 119), api.ErrPageLong},
	{"119 cells with link -1", 1, -1, make([]string, 119), api.ErrPageLong},
}

// P8.2: what no page has: ahead of a disk that is full, or dead, or both.
func TestNewOfWrong(t *testing.T) {
	d, p := fresh(t, 3)
	for _, fill := range []bool{false, true} {
		if fill {
			makes(t, p, 2, "a")
		}
		for _, x := range wrong {
			makesNone(t, x.what, p, x.kind, x.link, x.cells, x.want)
			if fill {
				changesNone(t, x.what, p, 2, x.kind, x.link, x.cells, x.want)
				reads(t, p, api.Page{Kind: 1, No: 2, Epoch: 2, Cells: []string{"a"}})
			}
		}
	}
	commits(t, p, 2)
	for _, x := range wrong {
		changesNone(t, x.what, p, 2, x.kind, x.link, x.cells, x.want)
		changesNone(t, x.what, p, 3, x.kind, x.link, x.cells, api.ErrPagerPage)
	}
	d.Fuse(0)
	for _, x := range wrong {
		makesNone(t, "on a dead disk, "+x.what, p, x.kind, x.link, x.cells, x.want)
		changesNone(t, "on a dead disk, "+x.what, p, 2, x.kind, x.link, x.cells, x.want)
	}
}

// P8.2: as much as a page has at most.
func TestNewOfMost(t *testing.T) {
	_, p := fresh(t, 20)
	for i, x := range []api.Page{
		{Kind: 1}, {Kind: 255, Link: top}, {Kind: 3, Link: 2}, {Kind: 9, Cells: make([]string, 118)},
		{Kind: 7, Cells: []string{strings.Repeat("x", 234)}}, {Kind: 2, Link: 1, Cells: []string{"", "\x00", "\xff"}},
	} {
		no, e := p.New(x.Kind, x.Link, x.Cells)
		x.No, x.Epoch = 2+i, 2
		if no != x.No || e != api.OK {
			t.Fatalf("New of %v: %d, %d", x, no, e)
		}
		reads(t, p, x)
	}
}

// P8.2: a disk that is full, dead, or both, with a page that may be used, or that the disk has already, and without.
func TestNewOnFullAndDead(t *testing.T) {
	d, p := fresh(t, 4)
	makes(t, p, 2)
	makes(t, p, 3)
	makesNone(t, "on a full disk", p, 1, 0, nil, api.ErrPagerFull)
	d.Fuse(0)
	makesNone(t, "on a full, dead disk", p, 1, 0, nil, api.ErrPagerFull)
	changesNone(t, "a new page, on a full, dead disk", p, 3, 1, 0, nil, api.ErrDiskDead)
	drops(t, p, 2)
	makesNone(t, "on a full, dead disk with a free page", p, 1, 0, nil, api.ErrDiskDead)
	d.Crash([]api.Torn{{Write: 0, Sectors: 15}, {Write: 1, Sectors: 15}})
	makes(t, p, 2, "x")
	makesNone(t, "on a full disk", p, 1, 0, nil, api.ErrPagerFull)
	p.Abort()
	d.Fuse(0)
	makesNone(t, "on a dead disk that is long already", p, 1, 0, nil, api.ErrDiskDead)

	d, p = fresh(t, 4)
	d.Fuse(0)
	makesNone(t, "on a dead disk", p, 1, 0, nil, api.ErrDiskDead)
	if d.Pages() != 2 {
		t.Errorf("a dead disk grew to %d pages", d.Pages())
	}
	d, p = fresh(t, 2)
	makesNone(t, "on a disk of at most 2 pages", p, 1, 0, nil, api.ErrPagerFull)
	d.Fuse(0)
	makesNone(t, "on such one that is dead", p, 1, 0, nil, api.ErrPagerFull)
}

// P8.2: all pages that a disk has at most.
func TestNewOnGreatestDisk(t *testing.T) {
	d, p := fresh(t, api.MaxPages)
	for no := 2; no < api.MaxPages; no++ {
		makes(t, p, no)
	}
	makesNone(t, "on a full disk", p, 1, 0, nil, api.ErrPagerFull)
	commits(t, p, 4095)
	want := state{super: api.Super{Epoch: 2, Root: 4095, Pages: 4096}, pages: 4096}
	tells(t, "all pages", opened(t, d), want)
	for no := 2; no < api.MaxPages; no++ {
		drops(t, p, no)
	}
	was := stateOf(p)
	be(t, "Commit of 4094 free pages that may not be used", p.Commit(0), api.ErrPagerFull)
	if len(was.free) != 4094 {
		t.Errorf("%d pages are free", len(was.free))
	}
	tells(t, "behind it", p, want)
	for no := 2; no < 4000; no++ {
		drops(t, p, no)
	}
	be(t, "Commit of free pages that may not be used", p.Commit(4000), api.ErrPagerFull)
	// New pages may be used at once.
	d, p = fresh(t, api.MaxPages)
	for no := 2; no < api.MaxPages; no++ {
		makes(t, p, no)
	}
	for no := 2; no < api.MaxPages; no++ {
		drops(t, p, no)
	}
	commits(t, p, 0)
	if len(p.Chain()) != 171 || len(p.Free()) != 4094-171 { // 171 times 24 is above 4094
		t.Errorf("%d free pages on %d", len(p.Free()), len(p.Chain()))
	}
	covered(t, "all free", p)
	tells(t, "opened again", opened(t, d), stateOf(p))
}

// P8.2: which page is taken: the least one that may be used, by the oldest epoch; one more, where there is none.
func TestNewTakes(t *testing.T) {
	x := api.Super{Epoch: 7, Root: 4, Free: 3, Pages: 12}
	chain := link(3, 0, cell(5, 6), cell(6, 3), cell(8, 7), cell(9, 8), cell(10, 0), cell(11, 3))
	for oldest, want := range map[int][]int{
		math.MinInt: {12, 13, 14}, -1: {12, 13}, 0: {10, 12, 13}, 2: {10, 12}, 3: {6, 10, 11, 12, 13},
		5: {6, 10, 11, 12}, 6: {5, 6, 10, 11, 12}, 7: {5, 6, 8, 10, 11, 12, 13},
		8: {5, 6, 8, 10, 11, 12}, 9: {5, 6, 8, 10, 11, 12}, math.MaxInt: {5, 6, 8, 10, 11, 12},
	} {
		d := laid(t, 20, x, chain)
		p := opened(t, d)
		p.Oldest(oldest)
		for _, no := range want {
			makes(t, p, no, "x")
			reads(t, p, api.Page{Kind: 1, No: no, Epoch: 8, Cells: []string{"x"}})
		}
		if p.Pages() != max(12, want[len(want)-1]+1) || d.Pages() != 20 {
			t.Errorf("oldest %d: %d pages, the disk %d", oldest, p.Pages(), d.Pages())
		}
	}
	// Without Oldest it is the super's, also behind Commit and Abort.
	p := opened(t, laid(t, 20, x, chain))
	makes(t, p, 5)
	p.Oldest(3)
	makes(t, p, 6)
	p.Abort()
	makes(t, p, 6) // Abort doesn't change what is read
	makes(t, p, 10)
	commits(t, p, 0)
	tells(t, "told", p, state{super: api.Super{Epoch: 8, Free: 11, Pages: 12}, free: list(3, 8, 5, 6, 8, 7, 9, 8), chain: []int{11}, pages: 12})
	makes(t, p, 3)
	makes(t, p, 5)
	makes(t, p, 8)
	makes(t, p, 9)
	makes(t, p, 12)
}

// P8.2, P8.3: where the disk is longer already, one page more is one of its pages.
func TestNewOnLongerDisk(t *testing.T) {
	d, p := fresh(t, 6)
	be(t, "Grow", d.Grow(4), api.OK)
	for _, x := range [][2]int{{2, 4}, {3, 4}, {4, 5}, {5, 6}} {
		makes(t, p, x[0])
		if d.Pages() != x[1] || p.Pages() != x[0]+1 {
			t.Errorf("page %d: %d pages, the disk %d", x[0], p.Pages(), d.Pages())
		}
	}
	makesNone(t, "on a full disk", p, 1, 0, nil, api.ErrPagerFull)
	p.Abort()
	if d.Pages() != 6 || p.Pages() != 2 {
		t.Errorf("behind Abort: %d pages, the disk %d", p.Pages(), d.Pages())
	}
	makes(t, p, 2, "again")
	commits(t, p, 2)
	tells(t, "told", opened(t, d), state{super: api.Super{Epoch: 2, Root: 2, Pages: 3}, pages: 3})
}

// P8.2: a page that is told: another one in its place; a new one: itself.
func TestChange(t *testing.T) {
	_, p := fresh(t, 20)
	makes(t, p, 2, "a")
	makes(t, p, 3, "b")
	commits(t, p, 2)
	if no, e := p.Change(3, 7, 9, []string{"c"}); no != 4 || e != api.OK {
		t.Fatal(no, e)
	}
	tells(t, "a told page changed", p, state{super: api.Super{Epoch: 2, Root: 2, Pages: 4}, free: list(3, 3), pages: 5})
	reads(t, p, api.Page{Kind: 1, No: 3, Epoch: 2, Cells: []string{"b"}})
	reads(t, p, api.Page{Kind: 7, No: 4, Epoch: 3, Link: 9, Cells: []string{"c"}})
	covered(t, "a told page changed", p, 2, 4)
	was := stateOf(p)
	for range 3 {
		if no, e := p.Change(4, 8, 2, []string{"d", "e"}); no != 4 || e != api.OK {
			t.Fatal(no, e)
		}
		tells(t, "a new page changed", p, was)
		reads(t, p, api.Page{Kind: 8, No: 4, Epoch: 3, Link: 2, Cells: []string{"d", "e"}})
	}
	for _, no := range append(odd, 3, 5, 6) {
		changesNone(t, "which is free, or isn't there", p, no, 1, 0, nil, api.ErrPagerPage)
	}
	// A page that was free, and was taken, is new.
	commits(t, p, 4)
	makes(t, p, 3, "f")
	changes(t, p, 3, 3, "g")
	reads(t, p, api.Page{Kind: 2, No: 3, Epoch: 4, Cells: []string{"g"}})
	// One that was dropped and is taken again is new, too; it may take another one's place.
	drops(t, p, 3)
	changesNone(t, "which is dropped", p, 3, 1, 0, nil, api.ErrPagerPage)
	changes(t, p, 2, 3, "h")
	changes(t, p, 3, 3, "i")
	covered(t, "two pages changed", p, 3, 4)
}

// P8.2: where New fails, nothing is dropped, and nothing written anew.
func TestChangeFails(t *testing.T) {
	d, p := fresh(t, 4)
	makes(t, p, 2, "a")
	commits(t, p, 2)
	makes(t, p, 3, "b")
	changesNone(t, "on a full disk", p, 2, 1, 0, nil, api.ErrPagerFull)
	changes(t, p, 3, 3, "c") // a new one needs no page
	d.Fuse(0)
	changesNone(t, "on a full, dead disk", p, 2, 1, 0, nil, api.ErrPagerFull)
	changesNone(t, "new, on a dead disk", p, 3, 1, 0, nil, api.ErrDiskDead)
	changesNone(t, "which isn't there, on a dead disk", p, 4, 1, 0, nil, api.ErrPagerPage)
	reads(t, p, api.Page{Kind: 2, No: 3, Epoch: 3, Cells: []string{"c"}})
	p.Abort()
	changesNone(t, "on a dead disk", p, 2, 1, 0, nil, api.ErrDiskDead)
	reads(t, p, api.Page{Kind: 1, No: 2, Epoch: 2, Cells: []string{"a"}})
}

// P8.2: from which epoch on a page is free that is told, and one that is new; twice; and what isn't there.
func TestDrop(t *testing.T) {
	_, p := fresh(t, 20)
	for no := 2; no < 8; no++ {
		makes(t, p, no)
	}
	drops(t, p, 5, 3)
	tells(t, "new ones dropped", p, state{super: anew.super, free: list(3, 0, 5, 0), pages: 8})
	dropsNone(t, p, append(odd, 3, 5, 8, 9)...)
	covered(t, "new ones dropped", p, 2, 4, 6, 7)
	makes(t, p, 3)
	commits(t, p, 2)
	tells(t, "told", p, state{super: api.Super{Epoch: 2, Root: 2, Free: 5, Pages: 8}, chain: []int{5}, pages: 8})
	drops(t, p, 7, 2, 3)
	tells(t, "told ones dropped", p, state{super: api.Super{Epoch: 2, Root: 2, Free: 5, Pages: 8}, free: list(2, 3, 3, 3, 7, 3), chain: []int{5}, pages: 8})
	dropsNone(t, p, append(odd, 2, 3, 7, 8)...)
	makes(t, p, 8)
	drops(t, p, 8)
	dropsNone(t, p, 8, 9)
	tells(t, "both dropped", p, state{super: api.Super{Epoch: 2, Root: 2, Free: 5, Pages: 8}, free: list(2, 3, 3, 3, 7, 3, 8, 0), chain: []int{5}, pages: 9})
	covered(t, "both dropped", p, 4, 6)
	commits(t, p, 4)
	tells(t, "told again", p, state{super: api.Super{Epoch: 3, Root: 4, Free: 8, Pages: 9}, free: list(2, 3, 3, 3, 5, 3, 7, 3), chain: []int{8}, pages: 9})
	covered(t, "told again", p, 4, 6)
	// A page that was free long ago, taken and dropped is free from epoch 0 on; Abort makes it free as it was.
	makes(t, p, 2)
	drops(t, p, 2)
	if l := p.Free(); l[0] != (api.Free{Page: 2}) {
		t.Errorf("%v", l)
	}
	p.Abort()
	if l := p.Free(); l[0] != (api.Free{Page: 2, Epoch: 3}) {
		t.Errorf("%v", l)
	}
}

// P8.2: Drop needs no disk: a dead one is no matter.
func TestDropOnDead(t *testing.T) {
	d, p := fresh(t, 20)
	makes(t, p, 2)
	commits(t, p, 2)
	makes(t, p, 3)
	d.Fuse(0)
	drops(t, p, 2, 3)
	dropsNone(t, p, 2, 3, 4)
	tells(t, "on a dead disk", p, state{super: api.Super{Epoch: 2, Root: 2, Pages: 3}, free: list(2, 3, 3, 0), pages: 4})
}

// P8.2, P8.3: a page of the chain is there, and isn't free: it is dropped and changed as others are, and the chain is told anew all the same.
func TestChainDropped(t *testing.T) {
	for _, changed := range []bool{false, true} {
		d, p := fresh(t, 20)
		makes(t, p, 2)
		makes(t, p, 3)
		commits(t, p, 2)
		drops(t, p, 3)
		commits(t, p, 2)
		tells(t, "a chain", p, state{super: api.Super{Epoch: 3, Root: 2, Free: 4, Pages: 5}, free: list(3, 3), chain: []int{4}, pages: 5})
		was, used := stateOf(p), []int{2}
		if changed {
			changes(t, p, 4, 3, "x")
			used = append(used, 3)
		} else {
			drops(t, p, 4)
		}
		dropsNone(t, p, 4)
		p.Abort()
		tells(t, "behind Abort", p, was)
		if changed {
			changes(t, p, 4, 3, "x")
		} else {
			drops(t, p, 4)
		}
		commits(t, p, 2)
		covered(t, "behind Commit", p, used...)
		tells(t, "opened again", opened(t, d), stateOf(p))
		if l := p.Free(); l[len(l)-1] != (api.Free{Page: 4, Epoch: 4}) {
			t.Errorf("%v", l)
		}
	}
}

// P8.3, P1: epochs of any size.
func TestOldest(t *testing.T) {
	_, p := fresh(t, 40)
	makes(t, p, 2)
	makes(t, p, 3)
	makes(t, p, 4)
	commits(t, p, 2)
	drops(t, p, 3)
	commits(t, p, 2) // 3 is free from epoch 3 on
	was := stateOf(p)
	for _, x := range []struct{ oldest, want int }{
		{math.MinInt, 6}, {-1, 6}, {0, 6}, {1, 6}, {2, 6}, {3, 3}, {4, 3}, {1 << 32, 3}, {math.MaxInt, 3}, {2, 6},
	} {
		p.Oldest(x.oldest)
		tells(t, "behind Oldest", p, was)
		makes(t, p, x.want)
		p.Abort()
	}
	// Below 0 not even new ones that were dropped may be used.
	p.Oldest(-1)
	makes(t, p, 6)
	drops(t, p, 6)
	makes(t, p, 7)
	p.Oldest(0)
	makes(t, p, 6)
	// Above the super's it is that one, also when the super's is more, later; Commit makes it the new one.
	p.Oldest(9)
	commits(t, p, 2) // the chain takes 3; 5 is free from epoch 4 on
	makes(t, p, 5)
	drops(t, p, 4)
	p.Oldest(1)
	commits(t, p, 2)
	if l := p.Free(); !slices.Equal(l, list(3, 5, 4, 5)) {
		t.Errorf("%v", l)
	}
	makes(t, p, 3)
	makes(t, p, 4)
	// A failed Commit doesn't change it.
	p.Abort()
	p.Oldest(4)
	be(t, "Commit", p.Commit(3), api.ErrPagerPage)
	makes(t, p, 9)
}

// P1: disks that others laid, on which pages are there twice: every call ends.
func TestOddDisks(t *testing.T) {
	for _, l := range [][]api.Page{
		{link(2, 0, cell(2, 0))}, {link(2, 3, cells(2, 23)...), link(3, 0, cell(25, 0))}, {link(29, 28), link(28, 0)},
	} {
		for _, root := range []int{0, 2, 3, 29} {
			d := laid(t, 30, api.Super{Epoch: 4, Root: root, Free: l[0].No, Pages: 30}, l...)
			p := opened(t, d)
			for i := range 60 {
				p.New(1, 0, nil)
				p.Change(i, 1, 0, nil)
				p.Drop(i / 2)
				p.Commit(i % 5)
				p.Read(i)
				if i%7 == 0 {
					p.Oldest(i / 3)
				}
			}
			if q, e := Open(d); e != api.OK && e != api.ErrPagerForm || (q == nil) != (e != api.OK) {
				t.Errorf("Open: %d", e)
			}
		}
	}
}

// What was handed in isn't kept, and isn't changed, its spare room neither.
func TestHandedIn(t *testing.T) {
	_, p := fresh(t, 20)
	l := append(make([]string, 0, 8), "a", "b")
	want := slices.Clone(l[:8])
	no, e := p.New(1, 0, l)
	be(t, "New", e, api.OK)
	again, e := p.New(1, 0, l)
	be(t, "New", e, api.OK)
	_, e = p.Change(again, 1, 0, l)
	be(t, "Change", e, api.OK)
	if !slices.Equal(l[:8], want) {
		t.Errorf("%q", l[:8])
	}
	l[0], l[1] = "x", "y"
	for range 2 {
		for _, no := range []int{no, again} {
			reads(t, p, api.Page{Kind: 1, No: no, Epoch: 2, Cells: []string{"a", "b"}})
		}
		commits(t, p, no)
	}
}

// What is handed out is new memory.
func TestHandedOut(t *testing.T) {
	d, p := fresh(t, 20)
	for no := 2; no < 6; no++ {
		makes(t, p, no, "a", "b")
	}
	commits(t, p, 2)
	drops(t, p, 3, 4)
	commits(t, p, 2)
	was := state{super: api.Super{Epoch: 3, Root: 2, Free: 6, Pages: 7}, free: list(3, 3, 4, 3), chain: []int{6}, pages: 7}
	spoil := func() {
		l, chain := p.Free(), p.Chain()
		l, chain = l[:cap(l)], chain[:cap(chain)]
		for i := range l {
			l[i] = api.Free{Page: 1, Epoch: 1}
		}
		for i := range chain {
			chain[i] = 1
		}
		q, _ := p.Read(2)
		for i := range q.Cells {
			q.Cells[i] = "x"
		}
	}
	spoil()
	tells(t, "what was told", p, was)
	drops(t, p, 5)
	spoil()
	tells(t, "what wasn't told", p, state{super: was.super, free: list(3, 3, 4, 3, 5, 4), chain: []int{6}, pages: 7})
	p.Abort()
	spoil()
	tells(t, "behind Abort", p, was)
	reads(t, p, api.Page{Kind: 1, No: 2, Epoch: 2, Cells: []string{"a", "b"}})
	p = opened(t, d)
	spoil()
	tells(t, "opened again", p, was)
	commits(t, p, 2)
	tells(t, "told", p, state{super: api.Super{Epoch: 4, Root: 2, Free: 3, Pages: 7}, free: list(4, 3, 6, 4), chain: []int{3}, pages: 7})
}

// Two disks' pagers have nothing in common.
func TestTwoPagers(t *testing.T) {
	d, p := fresh(t, 20)
	makes(t, p, 2, "a")
	commits(t, p, 2)
	c := d.Copy()
	q := opened(t, c)
	changes(t, p, 2, 3, "b")
	makes(t, q, 3, "c")
	reads(t, p, api.Page{Kind: 2, No: 3, Epoch: 3, Cells: []string{"b"}})
	reads(t, q, api.Page{Kind: 1, No: 3, Epoch: 3, Cells: []string{"c"}})
	commits(t, p, 3)
	tells(t, "the other one", q, state{super: api.Super{Epoch: 2, Root: 2, Pages: 3}, pages: 4})
}
