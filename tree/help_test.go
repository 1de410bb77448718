package tree

import (
	"encoding/binary"
	"fmt"
	"math/rand"
	"slices"
	"strings"
	"testing"

	"lunette/api"
	"lunette/disk"
	"lunette/free"
	"lunette/pager"
)

// lot is more than any tree here has.
const lot = 1 << 30

// be holds an error against another one.
func be(t *testing.T, what string, got, want api.Errno) {
	t.Helper()
	if got != want {
		t.Fatalf("%s: %d, not %d", what, got, want)
	}
}

// fresh is the pager of a disk that had nothing, and the disk.
func fresh(t *testing.T, most int) (*disk.Disk, *pager.Pager) {
	t.Helper()
	d, e := disk.New(most)
	be(t, "a disk", e, api.OK)
	p, e := pager.Open(d)
	be(t, "its pager", e, api.OK)
	return d, p
}

// short tells a text that may be long.
func short(s string) string {
	if len(s) < 12 {
		return fmt.Sprintf("%q", s)
	}
	return fmt.Sprintf("%q.. of %d", s[:12], len(s))
}

// long is a text of so many bytes that begins with another one.
func long(s string, n int) string { return s + strings.Repeat("~", n-len(s)) }

// pairs is keys, each with the value behind it.
func pairs(l ...string) [][2]string {
	var list [][2]string
	for i := 0; i < len(l); i += 2 {
		list = append(list, [2]string{l[i], l[i+1]})
	}
	return list
}

// plain is a tree as a plain list of keys and values.
type plain [][2]string

// find is where a key is, or would be.
func (l plain) find(key string) (int, bool) {
	return slices.BinarySearchFunc(l, key, func(kv [2]string, key string) int { return strings.Compare(kv[0], key) })
}

// get is the value of a key.
func (l plain) get(key string) (string, bool) {
	if at, ok := l.find(key); ok {
		return l[at][1], true
	}
	return "", false
}

// put is the list with a key's value.
func (l plain) put(key, value string) plain {
	at, _ := l.find(key)
	return slices.Concat(l.drop(key)[:at], plain{{key, value}}, l.drop(key)[at:])
}

// drop is the list without a key.
func (l plain) drop(key string) plain {
	return slices.DeleteFunc(slices.Clone(l), func(kv [2]string) bool { return kv[0] == key })
}

// stretch is the keys from one on, below another one, at most so many.
func (l plain) stretch(from, to string, most int) [][2]string {
	var list [][2]string
	for _, kv := range l {
		if kv[0] >= from && (to == "" || kv[0] < to) && len(list) < most {
			list = append(list, kv)
		}
	}
	return list
}

// look is a tree as its pages tell it, by the chapter's words alone.
type look struct {
	t      *testing.T
	p      *pager.Pager
	pages  []int
	list   plain
	depth  int
	spread []int // how many keys each leaf has
}

// looked is what stands below a root, if it is a tree.
func looked(t *testing.T, p *pager.Pager, root int) *look {
	t.Helper()
	l := &look{t: t, p: p}
	if root != 0 {
		l.come(root, 1, "", nil)
	}
	return l
}

// come comes to a page whose keys are from one on, and below the other one, if there is one.
func (l *look) come(no, depth int, from string, to *string) {
	l.t.Helper()
	q, e := l.p.Read(no)
	if e != api.OK || q.Link != 0 || q.Kind < 1 || q.Kind > 2 {
		l.t.Fatalf("page %d of a tree: %v, %d", no, q, e)
	}
	if slices.Contains(l.pages, no) {
		l.t.Fatalf("page %d is told twice", no)
	}
	l.pages = append(l.pages, no)
	if q.Kind == 2 {
		l.branch(q, depth, from, to)
		return
	}
	if len(q.Cells) == 0 && depth > 1 || l.depth != 0 && l.depth != depth {
		l.t.Fatalf("leaf %d has %d keys, at depth %d, not %d", no, len(q.Cells), depth, l.depth)
	}
	l.depth, l.spread = depth, append(l.spread, len(q.Cells))
	for _, c := range q.Cells {
		key := c[1 : 1+c[0]]
		if key < from || to != nil && key >= *to || len(l.list) > 0 && l.list[len(l.list)-1][0] >= key {
			l.t.Fatalf("leaf %d has %s, from %s on", no, short(key), short(from))
		}
		l.list = append(l.list, [2]string{key, c[1+c[0]:]})
	}
}

// branch comes to a branch's children.
func (l *look) branch(q api.Page, depth int, from string, to *string) {
	l.t.Helper()
	if len(q.Cells) == 0 || len(q.Cells) == 1 && depth == 1 {
		l.t.Fatalf("branch %d has %d cells, at depth %d", q.No, len(q.Cells), depth)
	}
	kid := q.Cells[0]
	for _, c := range q.Cells[1:] {
		key := c[1 : 1+c[0]]
		l.come(int(binary.BigEndian.Uint32([]byte(kid))), depth+1, from, &key)
		kid, from = c[1+c[0]:], key
	}
	l.come(int(binary.BigEndian.Uint32([]byte(kid))), depth+1, from, to)
}

// answers holds all that a tree answers against a list, and its pages against the words.
func answers(t *testing.T, what string, p *pager.Pager, root int, want plain) *look {
	t.Helper()
	l := looked(t, p, root)
	if !slices.Equal(l.list, want) {
		t.Fatalf("%s: %d keys, not %d, or others", what, len(l.list), len(want))
	}
	if pages, e := Pages(p, root); e != api.OK || !slices.Equal(pages, l.pages) {
		t.Fatalf("%s: Pages: %v, %d, not %v", what, pages, e, l.pages)
	}
	if depth, e := Check(p, root); e != api.OK || depth != l.depth {
		t.Fatalf("%s: Check: %d, %d, not %d", what, depth, e, l.depth)
	}
	ranges(t, what, p, root, want, "", "", lot)
	for _, kv := range want {
		gets(t, what, p, root, want, kv[0])
	}
	return l
}

// covers holds that a tree's pages, the chain's and the free ones are all there are, each once: none is lost.
func covers(t *testing.T, what string, p *pager.Pager, pages []int) {
	t.Helper()
	if !free.Cover(p.Free(), slices.Concat(pages, p.Chain()), p.Pages()) {
		t.Fatalf("%s: %v, with %v and %v, aren't all of %d pages, each once", what, p.Free(), pages, p.Chain(), p.Pages())
	}
}

// gets holds Get's answer against a list's.
func gets(t *testing.T, what string, p *pager.Pager, root int, l plain, key string) {
	t.Helper()
	want, has := l.get(key)
	if v, ok, e := Get(p, root, key); v != want || ok != has || e != api.OK {
		t.Fatalf("%s: Get of %s: %s, %v, %d, not %s, %v", what, short(key), short(v), ok, e, short(want), has)
	}
}

// ranges holds Range's answer against a list's.
func ranges(t *testing.T, what string, p *pager.Pager, root int, l plain, from, to string, most int) {
	t.Helper()
	want := l.stretch(from, to, most)
	if got, e := Range(p, root, from, to, most); e != api.OK || !slices.Equal(got, want) {
		t.Fatalf("%s: Range from %s to %s, %d: %d keys, %d, not %d, or others", what, short(from), short(to), most, len(got), e, len(want))
	}
}

// puts is the root behind Put.
func puts(t *testing.T, p *pager.Pager, root int, key, value string) int {
	t.Helper()
	root, e := Put(p, root, key, value)
	be(t, "Put of "+short(key), e, api.OK)
	return root
}

// drops is the root behind Drop of a key that is there.
func drops(t *testing.T, p *pager.Pager, root int, key string) int {
	t.Helper()
	root, has, e := Drop(p, root, key)
	be(t, "Drop of "+short(key), e, api.OK)
	if !has {
		t.Fatalf("Drop of %s: it wasn't there", short(key))
	}
	return root
}

// dropsNone holds Drop's answer of a key that isn't there.
func dropsNone(t *testing.T, p *pager.Pager, root int, key string) {
	t.Helper()
	if r, has, e := Drop(p, root, key); r != root || has || e != api.OK {
		t.Fatalf("Drop of %s: %d, %v, %d, not %d", short(key), r, has, e, root)
	}
}

// refusesGet holds Get's answer against an error, and nothing beside it.
func refusesGet(t *testing.T, what string, p *pager.Pager, root int, key string, want api.Errno) {
	t.Helper()
	if v, has, e := Get(p, root, key); v != "" || has || e != want {
		t.Errorf("Get of %s, of %s: %s, %v, %d, not %d", short(key), what, short(v), has, e, want)
	}
}

// refusesPut holds Put's answer against an error, and nothing beside it.
func refusesPut(t *testing.T, what string, p *pager.Pager, root int, key string, want api.Errno) {
	t.Helper()
	if no, e := Put(p, root, key, "value"); no != 0 || e != want {
		t.Errorf("Put of %s, of %s: %d, %d, not %d", short(key), what, no, e, want)
	}
}

// refusesDrop holds Drop's answer against an error, and nothing beside it.
func refusesDrop(t *testing.T, what string, p *pager.Pager, root int, key string, want api.Errno) {
	t.Helper()
	if no, has, e := Drop(p, root, key); no != 0 || has || e != want {
		t.Errorf("Drop of %s, of %s: %d, %v, %d, not %d", short(key), what, no, has, e, want)
	}
}

// refusesRange holds Range's answer against an error, and nothing beside it.
func refusesRange(t *testing.T, what string, p *pager.Pager, root int, from, to string, most int, want api.Errno) {
	t.Helper()
	if l, e := Range(p, root, from, to, most); l != nil || e != want {
		t.Errorf("Range from %s to %s, %d, of %s: %v, %d, not %d", short(from), short(to), most, what, l, e, want)
	}
}

// refusesAll holds Pages's and Check's answers against an error, and nothing beside it.
func refusesAll(t *testing.T, what string, p *pager.Pager, root int, want api.Errno) {
	t.Helper()
	if l, e := Pages(p, root); l != nil || e != want {
		t.Errorf("Pages of %s: %v, %d, not %d", what, l, e, want)
	}
	refusesCheck(t, what, p, root, want)
}

// refusesCheck holds Check's answer against an error, and nothing beside it.
func refusesCheck(t *testing.T, what string, p *pager.Pager, root int, want api.Errno) {
	t.Helper()
	if n, e := Check(p, root); n != 0 || e != want {
		t.Errorf("Check of %s: %d, %d, not %d", what, n, e, want)
	}
}

// commits tells all, and that it does.
func commits(t *testing.T, p *pager.Pager, root int) {
	t.Helper()
	be(t, fmt.Sprintf("Commit of %d", root), p.Commit(root), api.OK)
}

// grown is a tree of so many keys, put in any order, and a list of them; each key and value has so many bytes.
func grown(t *testing.T, p *pager.Pager, keys, size int) (int, plain) {
	t.Helper()
	root, l := 0, plain(nil)
	for _, i := range rand.New(rand.NewSource(int64(keys))).Perm(keys) {
		key, value := long(fmt.Sprintf("%03d", i), size), long("v", size)
		root, l = puts(t, p, root, key, value), l.put(key, value)
	}
	return root, l
}

// state is all that a pager tells of itself.
type state struct {
	super api.Super
	free  []api.Free
	chain []int
	pages int
}

// stateOf is what a pager tells of itself now.
func stateOf(p *pager.Pager) state {
	return state{super: p.Super(), free: p.Free(), chain: p.Chain(), pages: p.Pages()}
}

// tells holds what a pager tells of itself against a state.
func tells(t *testing.T, what string, p *pager.Pager, want state) {
	t.Helper()
	got := stateOf(p)
	if got.super != want.super || got.pages != want.pages || !slices.Equal(got.free, want.free) || !slices.Equal(got.chain, want.chain) {
		t.Fatalf("%s: %+v, not %+v", what, got, want)
	}
}

// bytesOf is the bytes of some pages of a disk.
func bytesOf(t *testing.T, d *disk.Disk, pages []int) []string {
	t.Helper()
	var l []string
	for _, no := range pages {
		b, e := d.Read(no)
		be(t, fmt.Sprintf("page %d", no), e, api.OK)
		l = append(l, string(b))
	}
	return l
}

// makes makes a page by hand; its number.
func makes(t *testing.T, p *pager.Pager, kind, link int, cells ...string) int {
	t.Helper()
	no, e := p.New(kind, link, cells)
	be(t, "a page", e, api.OK)
	return no
}

// leaf makes a leaf by hand, of keys with values.
func leaf(t *testing.T, p *pager.Pager, l ...string) int {
	t.Helper()
	var cells []string
	for _, kv := range pairs(l...) {
		cells = append(cells, entry(kv[0], kv[1]))
	}
	return makes(t, p, 1, 0, cells...)
}

// branch makes a branch by hand, of children with keys between.
func branch(t *testing.T, p *pager.Pager, kid int, l ...any) int {
	t.Helper()
	return makes(t, p, 2, 0, branchCells(kid, l...)...)
}

// branchCells is a branch's cells, of children with keys between.
func branchCells(kid int, l ...any) []string {
	cells := []string{four(kid)}
	for i := 0; i < len(l); i += 2 {
		cells = append(cells, entry(l[i].(string), four(l[i+1].(int))))
	}
	return cells
}

// entry is a cell with a key.
func entry(key, behind string) string { return string([]byte{byte(len(key))}) + key + behind }

// four is a number as four bytes.
func four(n int) string { return string(binary.BigEndian.AppendUint32(nil, uint32(n))) }
