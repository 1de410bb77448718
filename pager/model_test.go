package pager

import (
	"fmt"
	"maps"
	"math/rand"
	"slices"
	"testing"

	"lunette/api"
	"lunette/disk"
	"lunette/page"
	"lunette/sum"
)

// view is what was told, or should be, or is now, by the chapter's words alone.
type view struct {
	super api.Super
	free  map[int]int // since when
	chain []int
	pages int
	used  map[int]bool
	fresh map[int]bool
}

// copied is another view that is the same.
func (v view) copied() view {
	v.free, v.chain = maps.Clone(v.free), slices.Clone(v.chain)
	v.used, v.fresh = maps.Clone(v.used), maps.Clone(v.fresh)
	return v
}

// list is the free pages.
func (v view) list() []api.Free {
	var l []api.Free
	for _, no := range slices.Sorted(maps.Keys(v.free)) {
		l = append(l, api.Free{Page: no, Epoch: v.free[no]})
	}
	return l
}

// take takes a page.
func (v *view) take(oldest int) int {
	for no := range v.pages {
		if since, ok := v.free[no]; ok && since <= oldest {
			delete(v.free, no)
			return no
		}
	}
	v.pages++
	return v.pages - 1
}

// drop lets a page be free.
func (v *view) drop(no int) {
	v.free[no] = v.super.Epoch + 1
	if v.fresh[no] {
		v.free[no] = 0
	}
	delete(v.used, no)
	delete(v.fresh, no)
}

// model is a pager and its disk: nothing is looked up, all is worked out anew.
type model struct {
	most, long int // the disk's pages: at most, and now
	fuse       int // below 0: none
	told, now  view
	should     *view // what should have been told by the Commit that failed, if the super was written
	oldest     int
	text       map[int]api.Page // what stands on pages
	loose      map[int]bool     // pages that were written, and aren't synced
}

// newModel is a fresh disk's pager.
func newModel(most int) *model {
	m := &model{most: most, long: 2, fuse: -1, oldest: 1, text: map[int]api.Page{}, loose: map[int]bool{}}
	m.told = view{super: api.Super{Epoch: 1, Pages: 2}, pages: 2, free: map[int]int{}, used: map[int]bool{}, fresh: map[int]bool{}}
	m.now = m.told.copied()
	return m
}

// done is whether something is done to the disk, which may be dead.
func (m *model) done() bool {
	if m.fuse == 0 {
		return false
	}
	m.fuse = max(m.fuse-1, -1)
	return true
}

// write writes a page.
func (m *model) write(q api.Page) api.Errno {
	if !m.done() {
		return api.ErrDiskDead
	}
	m.text[q.No], m.loose[q.No] = q, true
	return api.OK
}

// make is New.
func (m *model) make(kind, link int, cells []string) (int, api.Errno) {
	v := m.now.copied()
	no := v.take(m.oldest)
	q := api.Page{Kind: kind, No: no, Epoch: v.super.Epoch + 1, Link: link, Cells: cells}
	if _, e := page.Put(sum.New(), q); e != api.OK {
		return 0, e
	}
	if v.pages > m.most {
		return 0, api.ErrPagerFull
	}
	if e := m.write(q); e != api.OK {
		return 0, e
	}
	m.long = max(m.long, v.pages)
	v.used[no], v.fresh[no] = true, true
	m.now = v
	return no, api.OK
}

// change is Change.
func (m *model) change(no, kind, link int, cells []string) (int, api.Errno) {
	if !m.now.used[no] {
		return 0, api.ErrPagerPage
	}
	if m.now.fresh[no] {
		q := api.Page{Kind: kind, No: no, Epoch: m.now.super.Epoch + 1, Link: link, Cells: cells}
		if _, e := page.Put(sum.New(), q); e != api.OK {
			return 0, e
		}
		if e := m.write(q); e != api.OK {
			return 0, e
		}
		return no, api.OK
	}
	other, e := m.make(kind, link, cells)
	if e == api.OK {
		m.now.drop(no)
	}
	return other, e
}

// drop is Drop.
func (m *model) drop(no int) api.Errno {
	if !m.now.used[no] {
		return api.ErrPagerPage
	}
	m.now.drop(no)
	return api.OK
}

// commit is Commit.
func (m *model) commit(root int) api.Errno {
	if root != 0 && !m.now.used[root] {
		return api.ErrPagerPage
	}
	v := m.next(root)
	e := m.tell(v)
	if e == api.OK {
		m.told, m.oldest, m.should = v, v.super.Epoch, nil
	}
	m.abort()
	return e
}

// next is what Commit should tell: with the shortest chain onto which the list that is left fits.
func (m *model) next(root int) view {
	for size := 0; ; size++ {
		v := m.now.copied()
		for _, no := range v.chain {
			v.drop(no)
		}
		v.chain = nil
		for range size {
			v.chain = append(v.chain, v.take(m.oldest))
		}
		if len(v.free) > 23*size {
			continue
		}
		v.super = api.Super{Epoch: v.super.Epoch + 1, Root: root, Pages: v.pages}
		if size > 0 {
			v.super.Free = v.chain[0]
		}
		v.fresh = map[int]bool{}
		return v
	}
}

// tell is Commit's writes and syncs.
func (m *model) tell(v view) api.Errno {
	if v.pages > m.most {
		return api.ErrPagerFull
	}
	if m.fuse == 0 {
		return api.ErrDiskDead
	}
	m.long = max(m.long, v.pages)
	l := v.list()
	for i, no := range v.chain {
		q := api.Page{Kind: 3, No: no, Epoch: v.super.Epoch}
		if i+1 < len(v.chain) {
			q.Link = v.chain[i+1]
		}
		for _, f := range l[min(23*i, len(l)):min(23*i+23, len(l))] {
			q.Cells = append(q.Cells, cell(f.Page, f.Epoch))
		}
		if e := m.write(q); e != api.OK {
			return e
		}
	}
	if m.done() {
		m.loose = map[int]bool{}
	}
	if !m.done() {
		return api.ErrDiskDead
	}
	m.should = &v
	if !m.done() {
		return api.ErrDiskDead
	}
	return api.OK
}

// abort is Abort.
func (m *model) abort() { m.now = m.told.copied() }

// pair is a pager and its model, on a disk to which things happen.
type pair struct {
	t *testing.T
	r *rand.Rand
	d *disk.Disk
	p *Pager
	m *model
}

// number is mostly a page's that is in use, but never a chain's.
func (x *pair) number() int {
	used := slices.Sorted(maps.Keys(x.m.now.used))
	if len(used) > 0 && x.r.Intn(6) > 0 {
		return used[x.r.Intn(len(used))]
	}
	for {
		if no := x.r.Intn(x.m.now.pages+4) - 1; !slices.Contains(x.m.now.chain, no) {
			return no
		}
	}
}

// content is mostly what a page may have.
func (x *pair) content() (int, int, []string) {
	kind, link := x.r.Intn(255)+1, x.r.Intn(50)
	var cells []string
	for range x.r.Intn(4) {
		cells = append(cells, string(make([]byte, x.r.Intn(30)))+fmt.Sprint(x.r.Int()))
	}
	switch x.r.Intn(30) {
	case 0:
		kind = 256 * x.r.Intn(2)
	case 1:
		link = -1
	case 2:
		cells = append(cells, string(make([]byte, 235)))
	}
	return kind, link, cells
}

// act does one act to both.
func (x *pair) act() string {
	kind, link, cells := x.content()
	no := x.number()
	switch act := x.r.Intn(40); {
	case act < 12:
		n, e := x.p.New(kind, link, cells)
		m, f := x.m.make(kind, link, cells)
		return x.alike("New", n, m, e, f)
	case act < 20:
		n, e := x.p.Change(no, kind, link, cells)
		m, f := x.m.change(no, kind, link, cells)
		return x.alike(fmt.Sprintf("Change of %d", no), n, m, e, f)
	case act < 28:
		return x.alike(fmt.Sprintf("Drop of %d", no), 0, 0, x.p.Drop(no), x.m.drop(no))
	case act < 34:
		if x.r.Intn(4) == 0 {
			no = 0
		}
		return x.alike(fmt.Sprintf("Commit of %d", no), 0, 0, x.p.Commit(no), x.m.commit(no))
	case act < 35:
		x.p.Abort()
		x.m.abort()
		return "Abort"
	case act < 37:
		n := x.r.Intn(x.m.told.super.Epoch+4) - 2
		x.p.Oldest(n)
		x.m.oldest = min(n, x.m.told.super.Epoch)
		return fmt.Sprintf("Oldest %d", n)
	case act < 38 && x.m.fuse != 0:
		n := x.r.Intn(30)
		x.d.Fuse(n)
		x.m.fuse = n
		return fmt.Sprintf("Fuse of %d", n)
	case x.m.fuse != 0 && x.r.Intn(2) == 0:
		x.open(x.m.told)
		return "Open"
	default:
		return x.crash()
	}
}

// alike holds both answers against each other.
func (x *pair) alike(what string, got, want int, e, f api.Errno) string {
	x.t.Helper()
	if got != want || e != f {
		x.t.Fatalf("%s: %d, %d, not %d, %d", what, got, e, want, f)
	}
	return what
}

// open opens the disk anew, which tells one of these.
func (x *pair) open(views ...view) {
	x.t.Helper()
	x.p = opened(x.t, x.d)
	for _, v := range views {
		if v.super == x.p.Super() {
			x.m.told, x.m.oldest, x.m.should = v.copied(), v.super.Epoch, nil
			x.m.abort()
			return
		}
	}
	x.t.Fatalf("Open tells %+v, not one of %+v", x.p.Super(), views)
}

// crash lets anything survive, and opens the disk: it tells what was told last, or what should be told, if that was written.
func (x *pair) crash() string {
	views, loose := []view{x.m.told}, x.d.Loose()
	if x.m.should != nil {
		views = append(views, *x.m.should)
	}
	seed := x.r.Intn(24)
	x.d.Crash(surviving(loose, seed))
	for no := range x.m.loose {
		delete(x.m.text, no)
	}
	x.m.fuse, x.m.loose = -1, map[int]bool{}
	if seed == 0 {
		views = views[:1] // nothing survived
	} else if seed == 15 {
		views = views[len(views)-1:] // all did
	}
	x.open(views...)
	return fmt.Sprintf("Crash with %d loose, seed %d", loose, seed)
}

// holds holds all that both tell against each other, and each page that is known.
func (x *pair) holds(what string) {
	x.t.Helper()
	v := x.m.now
	tells(x.t, what, x.p, state{super: v.super, free: v.list(), chain: v.chain, pages: v.pages})
	covered(x.t, what, x.p, slices.Collect(maps.Keys(v.used))...)
	if x.d.Pages() != x.m.long {
		x.t.Fatalf("%s: the disk has %d pages, not %d", what, x.d.Pages(), x.m.long)
	}
	for no, q := range x.m.text {
		if no < v.pages {
			reads(x.t, x.p, q)
		}
	}
	for _, no := range append(slices.Collect(maps.Keys(v.used)), v.chain...) {
		if x.m.text[no].No != no {
			x.t.Fatalf("%s: page %d is needed, and isn't known", what, no)
		}
	}
}

// P8.1 to P8.5: whatever happens, in whichever order, it is as the chapter's words have it: behind every act all pages are there, each once, and what was told is readable.
func TestAsTheModel(t *testing.T) {
	acts, fails := 0, 0
	for seed := range 400 {
		most := 2 + seed%9*seed%70
		d := newDisk(t, most, 0)
		x := &pair{t: t, r: rand.New(rand.NewSource(int64(seed))), d: d, p: opened(t, d), m: newModel(most)}
		for i := range 200 {
			what := x.act()
			x.holds(fmt.Sprintf("seed %d, act %d, %s", seed, i, what))
			acts++
			if x.m.should != nil {
				fails++
			}
		}
	}
	if fails < acts/200 {
		t.Errorf("of %d acts, %d alone had a super that was written, and not told", acts, fails)
	}
}

// shelf is a version that somebody reads: its pages as they were.
type shelf struct {
	epoch int
	text  map[int]api.Page
}

// P8.5: what was told stays readable, page by page, as long as somebody reads it, however often all is told anew, and wherever the disk dies.
func TestWhatIsReadStays(t *testing.T) {
	for seed := range 60 {
		d := newDisk(t, 400, 0)
		x := &pair{t: t, r: rand.New(rand.NewSource(int64(seed))), d: d, p: opened(t, d), m: newModel(400)}
		read := x.shelved()
		for i := range 300 {
			what := x.act()
			if x.m.oldest > read.epoch || x.m.oldest < 0 {
				x.p.Oldest(read.epoch)
				x.m.oldest = min(read.epoch, x.m.told.super.Epoch)
			}
			for _, q := range read.text {
				reads(t, x.p, q)
			}
			if x.r.Intn(60) == 0 {
				read = x.shelved()
			}
			x.holds(fmt.Sprintf("seed %d, act %d, %s", seed, i, what))
		}
	}
}

// shelved is what was told last, as a version that somebody reads.
func (x *pair) shelved() shelf {
	s := shelf{epoch: x.m.told.super.Epoch, text: map[int]api.Page{}}
	for no := range x.m.told.used {
		s.text[no] = x.m.text[no]
	}
	return s
}
