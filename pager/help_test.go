package pager

import (
	"encoding/binary"
	"fmt"
	"slices"
	"testing"

	"lunette/api"
	"lunette/disk"
	"lunette/free"
	"lunette/page"
	"lunette/sum"
	"lunette/super"
)

const top = 1<<32 - 1

// state is all that a pager tells of itself.
type state struct {
	super api.Super
	free  []api.Free
	chain []int
	pages int
}

// stateOf is what a pager tells of itself now.
func stateOf(p *Pager) state {
	return state{super: p.Super(), free: p.Free(), chain: p.Chain(), pages: p.Pages()}
}

// same is whether two states are one, nil and empty lists being one.
func same(a, b state) bool {
	return a.super == b.super && a.pages == b.pages && slices.Equal(a.free, b.free) && slices.Equal(a.chain, b.chain)
}

// tells holds what a pager tells of itself against a state.
func tells(t *testing.T, what string, p *Pager, want state) {
	t.Helper()
	if got := stateOf(p); !same(got, want) {
		t.Fatalf("%s: %+v, not %+v", what, got, want)
	}
}

// be holds an error against another one.
func be(t *testing.T, what string, got, want api.Errno) {
	t.Helper()
	if got != want {
		t.Fatalf("%s: %d, not %d", what, got, want)
	}
}

// list is a list of free pages, each with the epoch behind it.
func list(pairs ...int) []api.Free {
	var l []api.Free
	for i := 0; i < len(pairs); i += 2 {
		l = append(l, api.Free{Page: pairs[i], Epoch: pairs[i+1]})
	}
	return l
}

// newDisk is a disk of so many pages, of at most so many.
func newDisk(t *testing.T, most, pages int) *disk.Disk {
	t.Helper()
	d, e := disk.New(most)
	be(t, "a disk", e, api.OK)
	be(t, "its pages", d.Grow(pages), api.OK)
	return d
}

// opened is the pager of a disk that has one.
func opened(t *testing.T, d *disk.Disk) *Pager {
	t.Helper()
	p, e := Open(d)
	if e != api.OK || p == nil {
		t.Fatalf("Open: %d", e)
	}
	return p
}

// fresh is the pager of a disk that had nothing, and the disk.
func fresh(t *testing.T, most int) (*disk.Disk, *Pager) {
	t.Helper()
	d := newDisk(t, most, 0)
	return d, opened(t, d)
}

// refuses holds Open's answer against an error, and nothing beside it.
func refuses(t *testing.T, what string, d *disk.Disk, want api.Errno) {
	t.Helper()
	if p, e := Open(d); p != nil || e != want {
		t.Errorf("Open of %s: %v, %d, not %d", what, p, e, want)
	}
}

// makes holds New's answer against a page's number.
func makes(t *testing.T, p *Pager, want int, cells ...string) {
	t.Helper()
	if no, e := p.New(1, 0, cells); no != want || e != api.OK {
		t.Fatalf("New: %d, %d, not page %d", no, e, want)
	}
}

// makesNone holds New's answer against an error, and nothing beside it, and nothing changed.
func makesNone(t *testing.T, what string, p *Pager, kind, link int, cells []string, want api.Errno) {
	t.Helper()
	was := stateOf(p)
	if no, e := p.New(kind, link, cells); no != 0 || e != want {
		t.Errorf("New %s: %d, %d, not %d", what, no, e, want)
	}
	tells(t, "New "+what, p, was)
}

// changes holds Change's answer against a page's number.
func changes(t *testing.T, p *Pager, no, want int, cells ...string) {
	t.Helper()
	if other, e := p.Change(no, 2, 0, cells); other != want || e != api.OK {
		t.Fatalf("Change of %d: %d, %d, not page %d", no, other, e, want)
	}
}

// changesNone holds Change's answer against an error, and nothing beside it, and nothing changed.
func changesNone(t *testing.T, what string, p *Pager, no, kind, link int, cells []string, want api.Errno) {
	t.Helper()
	was := stateOf(p)
	if other, e := p.Change(no, kind, link, cells); other != 0 || e != want {
		t.Errorf("Change of %d %s: %d, %d, not %d", no, what, other, e, want)
	}
	tells(t, "Change "+what, p, was)
}

// drops lets pages be free.
func drops(t *testing.T, p *Pager, l ...int) {
	t.Helper()
	for _, no := range l {
		be(t, fmt.Sprintf("Drop of %d", no), p.Drop(no), api.OK)
	}
}

// dropsNone holds Drop's answer of pages that aren't there, and nothing changed.
func dropsNone(t *testing.T, p *Pager, l ...int) {
	t.Helper()
	was := stateOf(p)
	for _, no := range l {
		be(t, fmt.Sprintf("Drop of %d", no), p.Drop(no), api.ErrPagerPage)
		tells(t, fmt.Sprintf("Drop of %d", no), p, was)
	}
}

// commits tells all.
func commits(t *testing.T, p *Pager, root int) {
	t.Helper()
	be(t, fmt.Sprintf("Commit of %d", root), p.Commit(root), api.OK)
}

// reads holds a page against what it should be.
func reads(t *testing.T, p *Pager, want api.Page) {
	t.Helper()
	if q, e := p.Read(want.No); e != api.OK || !page.Same(q, want) {
		t.Fatalf("Read of %d: %v, %d, not %v", want.No, q, e, want)
	}
}

// readsNone holds Read's answer against an error, and nothing beside it.
func readsNone(t *testing.T, what string, p *Pager, no int, want api.Errno) {
	t.Helper()
	if q, e := p.Read(no); e != want || !page.Same(q, api.Page{}) {
		t.Errorf("Read of %d, %s: %v, %d, not %d", no, what, q, e, want)
	}
}

// writes writes a page's bytes, which last.
func writes(t *testing.T, d *disk.Disk, at int, b []byte) {
	t.Helper()
	be(t, "Write", d.Write(at, b), api.OK)
	d.Sync()
}

// bytesOf is a page's bytes.
func bytesOf(t *testing.T, q api.Page) []byte {
	t.Helper()
	b, e := page.Put(sum.New(), q)
	be(t, "a page's bytes", e, api.OK)
	return b
}

// superBytes is a super's bytes.
func superBytes(t *testing.T, x api.Super) []byte {
	t.Helper()
	b, _, e := super.Put(sum.New(), x)
	be(t, "a super's bytes", e, api.OK)
	return b
}

// laid is a disk of so many pages, on which stand a super and pages.
func laid(t *testing.T, pages int, x api.Super, l ...api.Page) *disk.Disk {
	t.Helper()
	d := newDisk(t, pages+4, pages)
	writes(t, d, x.Epoch%2, superBytes(t, x))
	for _, q := range l {
		writes(t, d, q.No, bytesOf(t, q))
	}
	return d
}

// cell is a free page's cell.
func cell(no, epoch int) string {
	b := binary.BigEndian.AppendUint32(nil, uint32(no))
	return string(binary.BigEndian.AppendUint32(b, uint32(epoch)))
}

// cells is the cells of free pages that rise from one on, each free from epoch 1 on.
func cells(from, count int) []string {
	var l []string
	for i := range count {
		l = append(l, cell(from+i, 1))
	}
	return l
}

// link is a chain's page.
func link(no, next int, cells ...string) api.Page {
	return api.Page{Kind: 3, No: no, Epoch: 1, Link: next, Cells: cells}
}

// covered holds that pages in use, the chain's and the free ones are all of a disk's, each once.
func covered(t *testing.T, what string, p *Pager, used ...int) {
	t.Helper()
	if !free.Cover(p.Free(), slices.Concat(used, p.Chain()), p.Pages()) {
		t.Fatalf("%s: %+v, with %v in use, aren't all pages, each once", what, stateOf(p), used)
	}
}

// anew is what a pager tells of a disk that had nothing.
var anew = state{super: api.Super{Epoch: 1, Pages: 2}, pages: 2}
