package pager

import (
	"bytes"
	"fmt"
	"math/rand"
	"slices"
	"testing"

	"lunette/api"
	"lunette/disk"
	"lunette/page"
)

// P8.3: which roots may be; of others nothing changes, and what is new stays so.
func TestCommitOfRoots(t *testing.T) {
	d, p := fresh(t, 20)
	makes(t, p, 2)
	makes(t, p, 3)
	makes(t, p, 4)
	drops(t, p, 3)
	refused := func(l ...int) {
		t.Helper()
		was := stateOf(p)
		for _, no := range append(odd, l...) {
			if no != 0 {
				be(t, fmt.Sprintf("Commit of %d", no), p.Commit(no), api.ErrPagerPage)
				tells(t, fmt.Sprintf("Commit of %d", no), p, was)
			}
		}
	}
	d.Fuse(1)
	refused(3, 5, 6)
	changes(t, p, 4, 4, "still new")
	d.Crash([]api.Torn{{Write: 0, Sectors: 15}, {Write: 2, Sectors: 15}, {Write: 3, Sectors: 15}})
	commits(t, p, 4)
	tells(t, "a new root", p, state{super: api.Super{Epoch: 2, Root: 4, Free: 3, Pages: 5}, chain: []int{3}, pages: 5})
	drops(t, p, 2)
	refused(2, 5)
	commits(t, p, 4)
	tells(t, "a told root", p, state{super: api.Super{Epoch: 3, Root: 4, Free: 5, Pages: 6}, free: list(2, 3, 3, 3), chain: []int{5}, pages: 6})
	refused(2, 3, 6)
	commits(t, p, 0)
	tells(t, "no root", p, state{super: api.Super{Epoch: 4, Free: 2, Pages: 6}, free: list(3, 3, 5, 4), chain: []int{2}, pages: 6})
	refused(3, 5, 6)
	d.Fuse(0)
	refused(3, 5, 6)
	be(t, "Commit on a dead disk", p.Commit(4), api.ErrDiskDead)
	tells(t, "no root", p, state{super: api.Super{Epoch: 4, Free: 2, Pages: 6}, free: list(3, 3, 5, 4), chain: []int{2}, pages: 6})
}

// P8.3: Commit of nothing is one, too: two syncs and a super, whose slot is the other one in turn.
func TestCommitOfNothing(t *testing.T) {
	d, p := fresh(t, 2)
	for epoch := 2; epoch < 9; epoch++ {
		other, _ := d.Read(1 - epoch%2)
		d.Fuse(3)
		commits(t, p, 0)
		if !d.Dead() || d.Loose() != 0 {
			t.Fatalf("epoch %d: dead is %v, %d loose", epoch, d.Dead(), d.Loose())
		}
		d.Crash(nil)
		x := api.Super{Epoch: epoch, Pages: 2}
		tells(t, "told", p, state{super: x, pages: 2})
		tells(t, "opened again", opened(t, d), state{super: x, pages: 2})
		a, _ := d.Read(epoch % 2)
		b, _ := d.Read(1 - epoch%2)
		if !bytes.Equal(a, superBytes(t, x)) || !bytes.Equal(b, other) {
			t.Fatalf("epoch %d: slots %x, %x", epoch, a, b)
		}
	}
}

// chainHas holds how many pages a chain has, and what stands on each, by the words.
func chainHas(t *testing.T, what string, d *disk.Disk, p *Pager, want int) {
	t.Helper()
	l, no := p.Free(), p.Super().Free
	var chain []int
	for no != 0 && len(chain) <= want {
		q, e := p.Read(no)
		be(t, what, e, api.OK)
		mine := l[:min(len(l), 23)]
		l = l[len(mine):]
		var cells []string
		for _, f := range mine {
			cells = append(cells, cell(f.Page, f.Epoch))
		}
		if !page.Same(q, api.Page{Kind: 3, No: no, Epoch: p.Super().Epoch, Link: q.Link, Cells: cells}) {
			t.Fatalf("%s: page %d of the chain is %v", what, no, q)
		}
		chain, no = append(chain, no), q.Link
	}
	if len(chain) != want || len(l) > 0 || !slices.Equal(chain, p.Chain()) {
		t.Fatalf("%s: a chain of %v, told as %v, not of %d pages, without %v", what, chain, p.Chain(), want, l)
	}
	tells(t, what+", opened again", opened(t, d), stateOf(p))
}

// P8.3: lists of so many free pages that may not be used, and that may, and how many pages the chain has.
func TestCommitOfLists(t *testing.T) {
	for _, x := range []struct{ size, later, now, again int }{
		{0, 0, 0, 0}, {1, 1, 1, 1}, {2, 1, 1, 1}, {22, 1, 1, 1}, {23, 1, 1, 1}, {24, 2, 1, 2}, {25, 2, 2, 2},
		{45, 2, 2, 2}, {46, 2, 2, 2}, {47, 3, 2, 3}, {48, 3, 2, 3}, {49, 3, 3, 3}, {69, 3, 3, 3}, {70, 4, 3, 4},
	} {
		what := fmt.Sprintf("%d pages", x.size)
		// Told ones may not be used till the next Commit.
		d, p := fresh(t, 200)
		for no := range x.size {
			makes(t, p, 2+no)
		}
		makes(t, p, 2+x.size)
		root := 2 + x.size
		commits(t, p, root)
		chainHas(t, what+" in use", d, p, 0)
		for no := range x.size {
			drops(t, p, 2+no)
		}
		commits(t, p, root)
		chainHas(t, what+" that may not be used", d, p, x.later)
		if len(p.Free()) != x.size || p.Pages() != root+1+x.later {
			t.Errorf("%s: %d are free, of %d", what, len(p.Free()), p.Pages())
		}
		covered(t, what+" that may not be used", p, root)
		// Then the chain's pages are free, too, and may not be used yet: the others may.
		commits(t, p, root)
		chainHas(t, what+" that may be used, and a chain's that may not", d, p, x.again)
		if len(p.Free()) != x.size+x.later-x.again || p.Pages() != root+1+x.later {
			t.Errorf("%s: %d are free, of %d", what, len(p.Free()), p.Pages())
		}
		covered(t, what+" and a chain", p, root)
		// New ones may be used at once.
		d, p = fresh(t, 200)
		for no := range x.size {
			makes(t, p, 2+no)
		}
		for no := range x.size {
			drops(t, p, 2+no)
		}
		commits(t, p, 0)
		chainHas(t, what+" that may be used", d, p, x.now)
		if len(p.Free()) != x.size-x.now || p.Pages() != 2+x.size {
			t.Errorf("%s: %d are free, of %d", what, len(p.Free()), p.Pages())
		}
		covered(t, what+" that may be used", p)
	}
}

// P8.3: a chain's pages are the least ones that may be used, in order, and then pages more.
func TestCommitTakes(t *testing.T) {
	d, p := fresh(t, 100)
	for no := 2; no < 62; no++ {
		makes(t, p, no)
	}
	commits(t, p, 2)
	for no := 10; no < 58; no++ { // 48 that may not be used
		drops(t, p, no)
	}
	p.Oldest(0)
	changes(t, p, 5, 62)
	drops(t, p, 62) // may be used
	commits(t, p, 2)
	tells(t, "one that may be used, and two more", p, state{super: api.Super{Epoch: 3, Root: 2, Free: 62, Pages: 65}, free: p.Free(), chain: []int{62, 63, 64}, pages: 65})
	if len(p.Free()) != 49 {
		t.Errorf("%d are free", len(p.Free()))
	}
	chainHas(t, "one that may be used, and two more", d, p, 3)
	commits(t, p, 2)
	if !slices.Equal(p.Chain(), []int{5, 10, 11}) {
		t.Errorf("%v", p.Chain())
	}
	chainHas(t, "three that may be used", d, p, 3)
	p.Oldest(2)
	commits(t, p, 2)
	if !slices.Equal(p.Chain(), []int{65, 66, 67}) {
		t.Errorf("%v", p.Chain())
	}
	chainHas(t, "three more", d, p, 3)
}

// P8.3: no page for the chain: all is as Abort makes it, be the disk dead or not; what is there still stays.
func TestCommitOnFull(t *testing.T) {
	for _, dead := range []bool{false, true} {
		d, p := fresh(t, 4)
		makes(t, p, 2, "a")
		makes(t, p, 3, "b")
		commits(t, p, 2)
		was := stateOf(p)
		drops(t, p, 3)
		if dead {
			d.Fuse(0)
		}
		be(t, "Commit on a full disk", p.Commit(2), api.ErrPagerFull)
		tells(t, "behind it", p, was)
		dropsNone(t, p, 4)
		drops(t, p, 3)
		p.Abort()
		reads(t, p, api.Page{Kind: 1, No: 3, Epoch: 2, Cells: []string{"b"}})
		if dead {
			be(t, "Commit on a dead disk", p.Commit(2), api.ErrDiskDead)
			d.Crash(nil)
		}
		tells(t, "opened again", opened(t, d), was)
		commits(t, p, 3)
		tells(t, "told", p, state{super: api.Super{Epoch: 3, Root: 3, Pages: 4}, pages: 4})
	}
	// Two pages are asked for, and one is there: full, though the disk is dead.
	for _, most := range []int{27, 28} {
		d, p := fresh(t, most)
		for no := 2; no < 26; no++ {
			makes(t, p, no)
		}
		commits(t, p, 0)
		for no := 2; no < 26; no++ {
			drops(t, p, no)
		}
		d.Fuse(0)
		want := api.ErrDiskDead
		if most < 28 {
			want = api.ErrPagerFull
		}
		be(t, "Commit on a dead disk", p.Commit(0), want)
		tells(t, "behind it", p, state{super: api.Super{Epoch: 2, Pages: 26}, pages: 26})
	}
}

// readied is a disk whose pager has told twice, and has changed since then: Commit of 30 writes two pages of a chain.
func readied(t *testing.T) (*disk.Disk, *Pager) {
	t.Helper()
	d, p := fresh(t, 80)
	for no := 2; no < 32; no++ {
		makes(t, p, no, "first")
	}
	commits(t, p, 2)
	drops(t, p, 30, 31)
	commits(t, p, 2)
	for no := 3; no < 26; no++ {
		drops(t, p, no)
	}
	changes(t, p, 2, 30, "second")
	makes(t, p, 31, "third")
	drops(t, p, 31)
	return d, p
}

// surviving is what survives of so many loose writes: the same sectors of each; from 16 on any ones of each.
func surviving(loose, seed int) []api.Torn {
	r := rand.New(rand.NewSource(int64(seed)))
	var kept []api.Torn
	for i := range loose {
		sectors := seed
		if seed >= 16 {
			sectors = r.Intn(256)
		}
		kept = append(kept, api.Torn{Write: i, Sectors: uint8(sectors)})
	}
	return kept
}

// P8.3, P8.5: a disk that dies at each write and at each sync of Commit: all is as Abort makes it, and the disk tells what was told last, or, if the super was written, what should be told.
func TestCommitDies(t *testing.T) {
	d, p := readied(t)
	commits(t, p, 30)
	told := stateOf(p)
	if !slices.Equal(told.chain, []int{31, 33}) || len(told.free) != 25 { // two chains' pages, sync, super, sync: five acts
		t.Fatal(told)
	}
	tells(t, "opened again", opened(t, d), told)
	for fuse := range 5 {
		for seed := range 48 {
			d, p := readied(t)
			p.Abort()
			was := stateOf(p)
			d, p = readied(t)
			d.Fuse(fuse)
			be(t, fmt.Sprintf("Commit behind %d", fuse), p.Commit(30), api.ErrDiskDead)
			tells(t, "behind it", p, was)
			reads(t, p, api.Page{Kind: 1, No: 2, Epoch: 2, Cells: []string{"first"}})
			readsNone(t, "that was taken", p, 33, api.ErrPagerPage)
			if synced := fuse > 2; synced != (d.Loose() == fuse-3) {
				t.Fatalf("%d loose behind %d", d.Loose(), fuse)
			}
			kept := surviving(d.Loose(), seed)
			d.Crash(kept)
			want := was
			// A super's second and third sectors are noughts, as they were: the first and the last one make it whole.
			if fuse == 4 && kept[0].Sectors&9 == 9 {
				want = told
			}
			tells(t, fmt.Sprintf("behind %d, %v survived", fuse, kept), opened(t, d), want)
		}
	}
	// The last sync was done, and the disk is dead then: it is told.
	d, p = readied(t)
	d.Fuse(5)
	commits(t, p, 30)
	tells(t, "told, on a dead disk", p, told)
	d.Crash(nil)
	tells(t, "opened again", opened(t, d), told)
}

// P8.3: a failed Commit can be made good, by the same pager, behind the crash.
func TestCommitBehindCrash(t *testing.T) {
	for fuse := range 5 {
		d, p := readied(t)
		d.Fuse(fuse)
		be(t, "Commit", p.Commit(30), api.ErrDiskDead)
		d.Crash(nil)
		changes(t, p, 2, 30, "again") // the oldest epoch is the super's still
		commits(t, p, 30)
		reads(t, p, api.Page{Kind: 2, No: 30, Epoch: 4, Cells: []string{"again"}})
		tells(t, "opened again", opened(t, d), stateOf(p))
	}
}

// P8.3: behind New, Change, Drop: nothing is new, and the same pages are taken again.
func TestAbort(t *testing.T) {
	d, p := fresh(t, 40)
	p.Abort()
	tells(t, "behind nothing", p, anew)
	for range 3 {
		makes(t, p, 2, "a")
		makes(t, p, 3, "b")
		drops(t, p, 2)
		makes(t, p, 2, "c")
		changes(t, p, 2, 2, "d")
		p.Abort()
		tells(t, "behind New", p, anew)
		readsNone(t, "that was new", p, 2, api.ErrPagerPage)
		dropsNone(t, p, 2, 3)
		be(t, "Commit of what was new", p.Commit(2), api.ErrPagerPage)
	}
	makes(t, p, 2, "a")
	makes(t, p, 3, "b")
	makes(t, p, 4, "c")
	commits(t, p, 2)
	drops(t, p, 3)
	commits(t, p, 2)
	was := stateOf(p)
	for range 3 {
		makes(t, p, 3, "new")
		changes(t, p, 2, 6, "in its place")
		drops(t, p, 4, 3, 6)
		be(t, "Commit of what is free", p.Commit(4), api.ErrPagerPage)
		p.Abort()
		tells(t, "behind Change and Drop", p, was)
		p.Abort()
		tells(t, "behind Abort", p, was)
		reads(t, p, api.Page{Kind: 1, No: 2, Epoch: 2, Cells: []string{"a"}})
		reads(t, p, api.Page{Kind: 1, No: 4, Epoch: 2, Cells: []string{"c"}})
		covered(t, "behind Abort", p, 2, 4)
	}
	// What was new isn't any more: in place of 2, which is told, there is another one; 3 is free as it was.
	changes(t, p, 2, 3, "x")
	changes(t, p, 4, 6, "y")
	if l := p.Free(); !slices.Equal(l, list(2, 4, 4, 4)) {
		t.Errorf("%v", l)
	}
	p.Abort()
	tells(t, "opened again", opened(t, d), was)
}

// P8.2, P8.3, P1: behind the last epoch that a page can tell nothing is made, or told, any more.
func TestLastEpoch(t *testing.T) {
	x := api.Super{Epoch: top - 1, Root: 2, Free: 3, Pages: 6}
	root := api.Page{Kind: 1, No: 2, Epoch: 5, Cells: []string{"a"}}
	d := laid(t, 10, x, root, link(3, 0, cell(4, top), cell(5, 1)))
	p := opened(t, d)
	changes(t, p, 2, 5, "b")
	commits(t, p, 5)
	was := state{super: api.Super{Epoch: top, Root: 5, Free: 6, Pages: 7}, free: list(2, top, 3, top, 4, top), chain: []int{6}, pages: 7}
	tells(t, "the last epoch", p, was)
	tells(t, "opened again", opened(t, d), was)
	makesNone(t, "behind the last epoch", p, 1, 0, nil, api.ErrPageForm)
	changesNone(t, "behind the last epoch", p, 5, 1, 0, nil, api.ErrPageForm)
	be(t, "Commit", p.Commit(5), api.ErrPageForm)
	tells(t, "behind it", p, was)
	drops(t, p, 5)
	be(t, "Commit", p.Commit(0), api.ErrPageForm)
	tells(t, "behind it", p, was)
	be(t, "Commit", p.Commit(9), api.ErrPagerPage)
	p = opened(t, laid(t, 10, api.Super{Epoch: top, Pages: 4}))
	be(t, "Commit without a chain", p.Commit(0), api.ErrPageForm)
	tells(t, "behind it", p, state{super: api.Super{Epoch: top, Pages: 4}, pages: 4})
}
