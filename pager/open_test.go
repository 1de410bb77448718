package pager

import (
	"bytes"
	"fmt"
	"slices"
	"testing"

	"lunette/api"
)

// P8.1: a disk without pages, with one, with two that are no supers: two supers, told by hand.
func TestOpenMakesAnew(t *testing.T) {
	junk := bytes.Repeat([]byte{7}, 256)
	for _, most := range []int{2, 3, 8, 4096} {
		for pages := range 3 {
			for _, filled := range []bool{false, true} {
				d := newDisk(t, most, pages)
				for no := range pages {
					if filled {
						writes(t, d, no, junk)
					}
				}
				d.Fuse(3)
				p := opened(t, d)
				if !d.Dead() || d.Loose() != 0 || d.Pages() != 2 {
					t.Errorf("of %d pages: dead is %v, %d loose, %d pages", pages, d.Dead(), d.Loose(), d.Pages())
				}
				tells(t, "made anew", p, anew)
				for slot := range 2 {
					b, _ := d.Read(slot)
					if !bytes.Equal(b, superBytes(t, api.Super{Epoch: slot, Pages: 2})) {
						t.Errorf("of %d pages: slot %d has %x", pages, slot, b)
					}
				}
				d.Crash(nil)
				tells(t, "opened again", opened(t, d), anew)
			}
		}
	}
	// Fewer than two pages are made anew whatever stands there; a page of a disk isn't a super in the other one's slot.
	d := newDisk(t, 2, 1)
	writes(t, d, 0, superBytes(t, api.Super{Epoch: 4, Pages: 2}))
	tells(t, "a super alone", opened(t, d), anew)
	d = newDisk(t, 2, 2)
	writes(t, d, 0, superBytes(t, api.Super{Epoch: 5, Pages: 2}))
	writes(t, d, 1, superBytes(t, api.Super{Epoch: 4, Pages: 2}))
	tells(t, "supers in each other's slots", opened(t, d), anew)
}

// P8.1: one super is enough; nothing is written then.
func TestOpenOfOneSuper(t *testing.T) {
	for _, epoch := range []int{0, 1, 2, 3, 1000, top - 1, top} {
		for _, pages := range []int{2, 3, 7} {
			x := api.Super{Epoch: epoch, Pages: 2}
			d := laid(t, pages, x)
			before := d.Copy()
			d.Fuse(1)
			tells(t, "one super", opened(t, d), state{super: x, pages: 2})
			for no := range pages {
				a, _ := before.Read(no)
				b, _ := d.Read(no)
				if d.Dead() || d.Loose() != 0 || d.Pages() != pages || !bytes.Equal(a, b) {
					t.Fatalf("Open of a super of epoch %d wrote to the disk", epoch)
				}
			}
		}
	}
	// Of two the newer one; the older one, if that is turned.
	d := laid(t, 4, api.Super{Epoch: 6, Root: 2, Pages: 3})
	writes(t, d, 1, superBytes(t, api.Super{Epoch: 7, Root: 3, Pages: 4}))
	tells(t, "6 and 7", opened(t, d), state{super: api.Super{Epoch: 7, Root: 3, Pages: 4}, pages: 4})
	be(t, "Spoil", d.Spoil(1, 100, []byte{1}), api.OK)
	tells(t, "6, and 7 turned", opened(t, d), state{super: api.Super{Epoch: 6, Root: 2, Pages: 3}, pages: 3})
	// The newer one is the one, even if it isn't as told, and the older one is.
	writes(t, d, 1, superBytes(t, api.Super{Epoch: 7, Root: 3, Pages: 5}))
	refuses(t, "6, and 7 that tells too many pages", d, api.ErrPagerForm)
}

// P8.1, P1: a disk that is dead, or can't grow: the error that is named first.
func TestOpenOfDeadAndShort(t *testing.T) {
	for pages := range 2 {
		d := newDisk(t, 1, pages)
		refuses(t, "a disk of at most 1 page", d, api.ErrDiskFull)
		if d.Pages() != pages || d.Loose() != 0 {
			t.Errorf("%d pages, %d loose", d.Pages(), d.Loose())
		}
		d.Fuse(0)
		refuses(t, "a dead disk of at most 1 page", d, api.ErrDiskDead)
	}
	for _, pages := range []int{0, 1, 2, 3, 8} {
		d := newDisk(t, 8, pages)
		d.Fuse(-1)
		refuses(t, "a dead disk", d, api.ErrDiskDead)
		if d.Pages() != pages || d.Loose() != 0 {
			t.Errorf("%d pages, %d loose", d.Pages(), d.Loose())
		}
	}
	d, _ := fresh(t, 8)
	d.Fuse(0)
	refuses(t, "a dead disk that has a super", d, api.ErrDiskDead)
	d.Crash(nil)
	tells(t, "behind the crash", opened(t, d), anew)
}

// P8.1, P8.5: a disk that dies at each write, and at the sync, while it is made anew; whatever survives, it can be opened.
func TestOpenDiesWhileMadeAnew(t *testing.T) {
	for pages := range 3 {
		for fuse := range 3 {
			for mask := range 256 {
				d := newDisk(t, 2, pages)
				d.Fuse(fuse)
				refuses(t, fmt.Sprintf("a disk of %d pages that dies behind %d", pages, fuse), d, api.ErrDiskDead)
				if fuse == 0 && mask == 0 {
					break // dead ahead of all
				}
				if d.Pages() != 2 || d.Loose() != fuse {
					t.Fatalf("%d pages, %d loose, behind %d", d.Pages(), d.Loose(), fuse)
				}
				d.Crash([]api.Torn{{Write: 0, Sectors: uint8(mask & 15)}, {Write: 1, Sectors: uint8(mask >> 4)}})
				want := anew
				// A super's second and third sectors are noughts, as the disk's are.
				if first, second := mask&9 == 9, fuse == 2 && mask>>4&9 == 9; first && !second {
					want = state{super: api.Super{Pages: 2}, pages: 2}
				}
				tells(t, fmt.Sprintf("what survives of %d: %08b", fuse, mask), opened(t, d), want)
			}
		}
	}
}

// P8.1, P8.2, P8.3: a disk of which the super of epoch 0 alone survived is gone on with.
func TestEpochNought(t *testing.T) {
	d := newDisk(t, 4, 0)
	d.Fuse(1)
	refuses(t, "a disk that dies", d, api.ErrDiskDead)
	d.Crash([]api.Torn{{Write: 0, Sectors: 15}})
	p := opened(t, d)
	makes(t, p, 2, "x")
	reads(t, p, api.Page{Kind: 1, No: 2, Epoch: 1, Cells: []string{"x"}})
	commits(t, p, 2)
	tells(t, "told", p, state{super: api.Super{Epoch: 1, Root: 2, Pages: 3}, pages: 3})
	tells(t, "opened again", opened(t, d), state{super: api.Super{Epoch: 1, Root: 2, Pages: 3}, pages: 3})
}

// P8.1: more than two pages, and no super.
func TestOpenWithoutSuper(t *testing.T) {
	for _, pages := range []int{3, 4, 100} {
		d := newDisk(t, 100, pages)
		refuses(t, "noughts", d, api.ErrPagerForm)
		writes(t, d, 0, bytesOf(t, api.Page{Kind: 1, Epoch: 4}))
		writes(t, d, 1, superBytes(t, api.Super{Epoch: 4, Pages: 2}))
		writes(t, d, 2, superBytes(t, api.Super{Epoch: 4, Pages: 2}))
		d.Fuse(1)
		refuses(t, "a page, and a super in the other slot", d, api.ErrPagerForm)
		if d.Dead() || d.Loose() != 0 || d.Pages() != pages {
			t.Error("Open wrote to a disk without a super")
		}
	}
}

// P8.1: a super that tells as many pages as the disk has, fewer, and more.
func TestOpenOfPages(t *testing.T) {
	for _, pages := range []int{2, 3, 7, 4092} {
		for _, more := range []int{-1, 0, 1, 2, 4} {
			x := api.Super{Epoch: 4, Pages: pages + more}
			if x.Pages < 2 {
				continue
			}
			d := laid(t, pages, x)
			if more > 0 {
				refuses(t, "too many pages", d, api.ErrPagerForm)
			} else {
				tells(t, "pages", opened(t, d), state{super: x, pages: x.Pages})
			}
		}
	}
}

// many is a list of free pages that rise from one on, each free from epoch 1 on.
func many(from, count int) []api.Free {
	var l []api.Free
	for i := range count {
		l = append(l, api.Free{Page: from + i, Epoch: 1})
	}
	return l
}

// P8.1: chains as told: of no page and of some, whose last ones may have fewer cells, or none.
func TestOpenOfChains(t *testing.T) {
	for what, x := range map[string]struct {
		l    []api.Page
		want []api.Free
	}{
		"nothing":                               {},
		"a page of none":                        {l: []api.Page{link(2, 0)}},
		"a page of one":                         {l: []api.Page{link(2, 0, cell(3, 9))}, want: list(3, 9)},
		"epochs of all sizes":                   {l: []api.Page{link(2, 0, cell(3, 0), cell(4, top), cell(89, 5))}, want: list(3, 0, 4, top, 89, 5)},
		"a page of 22":                          {l: []api.Page{link(2, 0, cells(10, 22)...)}, want: many(10, 22)},
		"a page of 23":                          {l: []api.Page{link(2, 0, cells(10, 23)...)}, want: many(10, 23)},
		"two pages of none":                     {l: []api.Page{link(2, 3), link(3, 0)}},
		"23 and none":                           {l: []api.Page{link(2, 3, cells(10, 23)...), link(3, 0)}, want: many(10, 23)},
		"23 and one":                            {l: []api.Page{link(3, 2, cells(10, 23)...), link(2, 0, cells(33, 1)...)}, want: many(10, 24)},
		"5, and twice none":                     {l: []api.Page{link(5, 4, cells(10, 5)...), link(4, 89), link(89, 0)}, want: many(10, 5)},
		"23, 23, one and none":                  {l: []api.Page{link(5, 9, cells(10, 23)...), link(9, 2, cells(33, 23)...), link(2, 7, cells(56, 1)...), link(7, 0)}, want: many(10, 47)},
		"as many pages as there are":            {l: all(2, 90)},
		"its own page, which nothing rules out": {l: []api.Page{link(2, 0, cell(2, 1))}, want: list(2, 1)},
	} {
		s := api.Super{Epoch: 4, Pages: 90}
		var chain []int
		for _, q := range x.l {
			chain = append(chain, q.No)
		}
		s.Free = itemAt(chain, 0)
		tells(t, what, opened(t, laid(t, 95, s, x.l...)), state{super: s, free: x.want, chain: chain, pages: 90})
	}
}

// all is a chain of all pages of a disk from one on, without cells, the last one first.
func all(from, pages int) []api.Page {
	var l []api.Page
	for no := pages - 1; no > from; no-- {
		l = append(l, link(no, no-1))
	}
	return append(l, link(from, 0))
}

// P8.1, P1: chains that aren't as told.
func TestOpenOfNoChains(t *testing.T) {
	loop := all(2, 90)
	loop[len(loop)-1].Link = 50
	ring := all(2, 90)
	ring[len(ring)-1].Link = 89
	kind := func(kind int) []api.Page {
		q := link(2, 0, cell(3, 9))
		q.Kind = kind
		return []api.Page{q}
	}
	for what, l := range map[string][]api.Page{
		"a page that was never written":         {link(2, 3)},
		"kind 1":                                kind(1),
		"kind 2":                                kind(2),
		"kind 4":                                kind(4),
		"kind 9":                                kind(9),
		"kind 255":                              kind(255),
		"a second page of another kind":         append([]api.Page{link(4, 2)}, kind(1)...),
		"a page behind itself":                  {link(2, 2)},
		"a page behind itself, with cells":      {link(2, 2, cells(10, 23)...)},
		"two in a ring":                         {link(2, 3), link(3, 2)},
		"a page behind another one, and itself": {link(2, 3), link(3, 3)},
		"all in a ring":                         ring,
		"some in a ring":                        loop,
		"a link to a super":                     {link(2, 1)},
		"a link behind the last page":           {link(2, 90), link(90, 0)},
		"a link to the disk's last page":        {link(2, 94), link(94, 0)},
		"a link behind the disk":                {link(2, 95)},
		"a link behind all disks":               {link(2, 4096)},
		"a link to the greatest number":         {link(2, top)},
		"an empty cell":                         {link(2, 0, "")},
		"a cell of 7 bytes":                     {link(2, 0, cell(3, 1)[:7])},
		"a cell of 9 bytes":                     {link(2, 0, cell(3, 1)+"\x00")},
		"a cell of 16 bytes":                    {link(2, 0, cell(3, 1)+cell(4, 1))},
		"a good cell and none":                  {link(2, 0, cell(3, 1), "")},
		"pages that fall":                       {link(2, 0, cell(4, 1), cell(3, 1))},
		"a page that is free twice":             {link(2, 0, cell(4, 1), cell(4, 2))},
		"page 0":                                {link(2, 0, cell(0, 1))},
		"page 1":                                {link(2, 0, cell(1, 1), cell(3, 1))},
		"a page free on both pages":             {link(2, 3, cells(10, 23)...), link(3, 0, cells(32, 1)...)},
		"pages that fall behind each other":     {link(2, 3, cells(40, 23)...), link(3, 0, cells(10, 1)...)},
		"a first page that isn't full":          {link(2, 3, cells(10, 22)...), link(3, 0, cells(32, 1)...)},
		"a first page of none":                  {link(2, 3), link(3, 0, cells(32, 1)...)},
		"a page of none between others":         {link(2, 3, cells(10, 23)...), link(3, 4), link(4, 0, cells(33, 1)...)},
		"24 shorter cells":                      {link(2, 0, slices.Repeat([]string{"1234567"}, 24)...)},
		"the page behind the last one":          {link(2, 0, cell(3, 1), cell(90, 1))},
		"the disk's last page":                  {link(2, 0, cell(94, 1))},
		"a page behind the disk":                {link(2, 0, cell(95, 1))},
		"a page behind all disks":               {link(2, 0, cell(4096, 1))},
		"the greatest number":                   {link(2, 0, cell(top, 1))},
		"the second page's page behind all":     {link(2, 3, cells(10, 23)...), link(3, 0, cells(90, 1)...)},
	} {
		refuses(t, what, laid(t, 95, api.Super{Epoch: 4, Free: l[0].No, Pages: 90}, l...), api.ErrPagerForm)
	}
	// What can't be read: turned, torn, of another number; on the first page and on the second one.
	for no := 2; no < 4; no++ {
		for at := range 256 {
			d := laid(t, 40, api.Super{Epoch: 4, Free: 2, Pages: 40}, link(2, 3, cells(10, 23)...), link(3, 0, cell(33, 1)))
			b, _ := d.Read(no)
			be(t, "Spoil", d.Spoil(no, at, []byte{b[at] ^ 64}), api.OK)
			refuses(t, "a turned chain", d, api.ErrPagerForm)
		}
		d := laid(t, 40, api.Super{Epoch: 4, Free: 2, Pages: 40}, link(2, 3, cells(10, 23)...), link(3, 0, cell(33, 1)))
		b, _ := d.Read(5 - no)
		writes(t, d, no, b)
		refuses(t, "a page of another number", d, api.ErrPagerForm)
	}
	refuses(t, "a chain that isn't there", laid(t, 5, api.Super{Epoch: 4, Free: 4, Pages: 5}), api.ErrPagerForm)
}

// P8.1: what was told by one pager, and by another one after it.
func TestOpenAgain(t *testing.T) {
	d, p := fresh(t, 20)
	makes(t, p, 2, "a")
	makes(t, p, 3, "b")
	commits(t, p, 2)
	makes(t, p, 4, "c") // isn't told
	p = opened(t, d)
	tells(t, "another pager", p, state{super: api.Super{Epoch: 2, Root: 2, Pages: 4}, pages: 4})
	readsNone(t, "that wasn't told", p, 4, api.ErrPagerPage)
	changes(t, p, 3, 4, "d")
	commits(t, p, 2)
	want := state{super: api.Super{Epoch: 3, Root: 2, Free: 5, Pages: 6}, free: list(3, 3), chain: []int{5}, pages: 6}
	tells(t, "told by another pager", p, want)
	p = opened(t, d)
	tells(t, "a third pager", p, want)
	reads(t, p, api.Page{Kind: 1, No: 2, Epoch: 2, Cells: []string{"a"}})
	reads(t, p, api.Page{Kind: 2, No: 4, Epoch: 3, Cells: []string{"d"}})
	makes(t, p, 3, "e") // the oldest epoch is the super's: 3 may be used
	reads(t, p, api.Page{Kind: 1, No: 3, Epoch: 4, Cells: []string{"e"}})
	commits(t, p, 3)
	tells(t, "told by a third pager", p, state{super: api.Super{Epoch: 4, Root: 3, Free: 6, Pages: 7}, free: list(5, 4), chain: []int{6}, pages: 7})
	covered(t, "told by a third pager", p, 2, 3, 4)
}
