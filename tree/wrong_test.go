package tree

import (
	"fmt"
	"math"
	"slices"
	"strings"
	"testing"

	"lunette/api"
	"lunette/disk"
	"lunette/pager"
)

// refuses holds the answers of all calls against an error, and that they leave the pager as it is.
func refuses(t *testing.T, what string, p *pager.Pager, root int, want api.Errno) {
	t.Helper()
	was := stateOf(p)
	for _, key := range []string{"", "a", "m", "z", long("k", 100), long("k", 101)} {
		refusesGet(t, what, p, root, key, want)
		refusesDrop(t, what, p, root, key, want)
		refusesRange(t, what, p, root, key, "", lot, want)
		if len(key) < 101 {
			refusesPut(t, what, p, root, key, want)
		}
	}
	for _, most := range []int{math.MinInt, -1, 0, 1, math.MaxInt} { // what is no tree's page isn't one for any of these
		refusesRange(t, what, p, root, "", "", most, want)
	}
	refusesRange(t, what, p, root, "m", "a", lot, want)
	refusesAll(t, what, p, root, want)
	tells(t, what, p, was)
}

// refusesBelow holds the answers of all calls that need the child of a root that has keys from m on against an error; the other child, of keys below it, is answered.
func refusesBelow(t *testing.T, what string, p *pager.Pager, kid int, want api.Errno) {
	t.Helper()
	good := leaf(t, p, "a", "1", "b", "2")
	root := branch(t, p, good, "m", kid)
	was := stateOf(p)
	for _, key := range []string{"m", "m\x00", "z"} {
		refusesGet(t, what, p, root, key, want)
		refusesDrop(t, what, p, root, key, want)
		refusesPut(t, what, p, root, key, want)
		refusesRange(t, what, p, root, key, "", lot, want)
	}
	refusesRange(t, what, p, root, "", "", 3, want)
	refusesRange(t, what, p, root, "b", "m\x00", 2, want)
	refusesRange(t, what, p, root, "b", "", lot, want)
	refusesAll(t, what, p, root, want)
	tells(t, what, p, was)

	l := plain(pairs("a", "1", "b", "2"))
	gets(t, what, p, root, l, "a")
	gets(t, what, p, root, l, "c")
	dropsNone(t, p, root, "c")
	ranges(t, what, p, root, l, "", "m", lot)
	ranges(t, what, p, root, l, "", "b", lot)
	ranges(t, what, p, root, l, "", "", 2) // it is enough, and asks for no page more
	ranges(t, what, p, root, l, "", "", 0)
	ranges(t, what, p, branch(t, p, kid, "m", good), nil, "", "", 0)
	// What is beside the leaf isn't needed to change it, either.
	root = puts(t, p, root, "c", "3")
	root = drops(t, p, root, "b")
	ranges(t, what, p, root, pairs("a", "1", "c", "3"), "", "m", lot)
}

// P9.3: roots and children that aren't there.
func TestNoPage(t *testing.T) {
	_, p := fresh(t, 500)
	for _, root := range []int{math.MinInt, -2, -1, 1, 2, 3, 499, 500, 4096, 1 << 32, math.MaxInt} {
		refuses(t, fmt.Sprintf("root %d", root), p, root, api.ErrPagerPage)
	}
	for _, kid := range []int{1, 400, 500, 4096, 1<<32 - 1} {
		refusesBelow(t, fmt.Sprintf("child %d", kid), p, kid, api.ErrPagerPage)
	}
	no := leaf(t, p, "m", "1")
	p.Abort()
	refuses(t, "a page that isn't there any more", p, no, api.ErrPagerPage)
}

// P9.3: pages whose kind, link or cells are no tree's, as the root and below it.
func TestNoTreesPage(t *testing.T) {
	a, z := entry("a", "1"), entry("z", "2")
	for _, x := range []struct {
		what       string
		kind, link int
		cells      []string
	}{
		{"another kind", 3, 0, nil},
		{"another kind, with a leaf's cells", 3, 0, []string{a}},
		{"another kind, with a branch's cells", 4, 0, branchCells(2, "m", 2)},
		{"the last kind", 255, 0, []string{a}},
		{"a leaf with a link", 1, 1, []string{a}},
		{"a leaf with a far link", 1, 1<<32 - 1, []string{a}},
		{"a leaf with a link to itself, without cells", 1, 2, nil},
		{"a branch with a link", 2, 3, branchCells(2, "m", 2)},
		{"a leaf with an empty cell", 1, 0, []string{a, ""}},
		{"a leaf with a key beyond its cell", 1, 0, []string{"\x02a"}},
		{"a leaf with a key of 101 bytes", 1, 0, []string{entry(strings.Repeat("a", 101), "")}},
		{"a leaf with a value of 101 bytes", 1, 0, []string{entry("a", strings.Repeat("v", 101))}},
		{"a leaf whose keys fall", 1, 0, []string{z, a}},
		{"a leaf with a key twice", 1, 0, []string{a, a}},
		{"a branch without cells", 2, 0, nil},
		{"a branch with a leaf's cells", 2, 0, []string{a, z}},
		{"a branch whose first child has three bytes", 2, 0, []string{"\x00\x00\x02", entry("m", four(2))}},
		{"a branch whose first child has five bytes", 2, 0, []string{four(2) + "\x02", entry("m", four(2))}},
		{"a branch whose last child has three bytes", 2, 0, []string{four(2), entry("m", "\x00\x00\x02")}},
		{"a branch with child 0 first", 2, 0, branchCells(0, "m", 2)},
		{"a branch with child 0 behind it", 2, 0, branchCells(2, "m", 0)},
		{"a branch with an empty cell", 2, 0, []string{four(2), ""}},
		{"a branch whose keys fall", 2, 0, branchCells(2, "m", 2, "a", 2)},
		{"a branch with a key twice", 2, 0, branchCells(2, "m", 2, "m", 2)},
		{"a branch with a key of 101 bytes", 2, 0, branchCells(2, strings.Repeat("m", 101), 2)},
	} {
		_, p := fresh(t, 50)
		leaf(t, p, "a", "1") // page 2
		no := makes(t, p, x.kind, x.link, x.cells...)
		refuses(t, x.what, p, no, api.ErrTreeForm)
		refusesBelow(t, x.what, p, no, api.ErrTreeForm)
		refusesBelow(t, x.what+", a page further", p, branch(t, p, no, "p", no), api.ErrTreeForm)
	}
}

// P9.3: pages of a tree that were turned, or that stand where another one should.
func TestTurned(t *testing.T) {
	for _, below := range []bool{false, true} {
		d, p := fresh(t, 50)
		no, other := leaf(t, p, "m", "1"), leaf(t, p, "n", "2")
		b := bytesOf(t, d, []int{no, other})
		check := refuses
		if below {
			check = refusesBelow
		}
		be(t, "a write", d.Write(no, []byte(b[1])), api.OK)
		check(t, "another page's bytes", p, no, api.ErrPageForm)
		be(t, "a write", d.Write(no, []byte(b[0])), api.OK)
		be(t, "Spoil", d.Spoil(no, 200, []byte{1}), api.OK)
		check(t, "a page that was turned", p, no, api.ErrPageSum)
	}
}

// P9.1, P9.4: a free page of a tree is read as it was, till it is taken; but it can't be changed.
func TestFreePage(t *testing.T) {
	_, p := fresh(t, 50)
	root := leaf(t, p, "m", "1")
	be(t, "Drop", p.Drop(root), api.OK)
	answers(t, "a free page", p, root, pairs("m", "1"))
	dropsNone(t, p, root, "n")
	refusesPut(t, "a free page", p, root, "m", api.ErrPagerPage)
	refusesPut(t, "a free page", p, root, "n", api.ErrPagerPage)
	refusesDrop(t, "a free page", p, root, "m", api.ErrPagerPage)
	if no := makes(t, p, 3, 0); no != root {
		t.Fatalf("page %d is taken, not %d", no, root)
	}
	refuses(t, "a page that was taken", p, root, api.ErrTreeForm)
	// A leaf that is free, below a root that isn't; and the other way round.
	for i := range 2 {
		_, p := fresh(t, 50)
		a, b := leaf(t, p, "a", "1"), leaf(t, p, "m", "2", "n", "3")
		root := branch(t, p, a, "m", b)
		commits(t, p, root)
		be(t, "Drop", p.Drop([]int{b, root}[i]), api.OK)
		commits(t, p, 0)
		p.Oldest(2) // so that it isn't taken
		was := stateOf(p)
		refusesPut(t, "in part free", p, root, "m", api.ErrPagerPage)
		p.Abort()
		refusesDrop(t, "in part free", p, root, "m", api.ErrPagerPage)
		p.Abort()
		tells(t, "in part free", p, was)
		answers(t, "in part free", p, root, pairs("a", "1", "m", "2", "n", "3"))
	}
}

// P9.3: what Check alone asks: how keys and leaves stand.
func TestNoTree(t *testing.T) {
	_, p := fresh(t, 200)
	lf := func(l ...string) int {
		var kv []string
		for _, key := range l {
			kv = append(kv, key, "of "+key)
		}
		return leaf(t, p, kv...)
	}
	br := func(kid int, l ...any) int { return branch(t, p, kid, l...) }
	same := lf("m")
	for _, x := range []struct {
		what string
		root int
		ok   bool
	}{
		{"keys at the edges", br(lf("", "lz"), "m", lf("m", "mz"), "n", lf("n", "~")), true},
		{"an empty key ahead of a child", br(br(lf(""), "m", lf("m")), "n", br(lf("n"))), true},
		{"a root without keys", br(lf("a")), false},
		{"a root without keys, above a branch", br(br(lf("a"), "m", lf("m"))), false},
		{"a branch without keys below the root", br(br(lf("a")), "m", br(lf("m"))), true},
		{"a leaf without keys first", br(lf(), "m", lf("m")), false},
		{"a leaf without keys last", br(lf("a"), "m", lf()), false},
		{"a leaf without keys between", br(lf("a"), "b", lf(), "c", lf("c")), false},
		{"a leaf without keys below a branch without keys", br(br(lf("a")), "m", br(lf())), false},
		{"a key at its branch's key, ahead of it", br(lf("a", "m"), "m", lf("n")), false},
		{"a key above its branch's key, ahead of it", br(lf("a", "z"), "m", lf("n")), false},
		{"a key below its branch's key, behind it", br(lf("a"), "m", lf("l", "n")), false},
		{"a key below its branch's key, by its end", br(lf("a"), "mm", lf("m", "n")), false},
		{"a key at the next one, in the middle", br(lf("a"), "b", lf("b", "c"), "c", lf("c")), false},
		{"a key below the first one, in the middle", br(lf("a"), "b", lf("aa", "bb"), "c", lf("c")), false},
		{"a key behind all, below an empty key", br(lf("a"), "", lf("b")), false},
		{"leaves of both children, changed over", br(lf("m"), "m", lf("a")), false},
		{"a key beyond the root's, two below it", br(br(lf("a"), "b", lf("c", "n")), "m", br(lf("m"))), false},
		{"a key ahead of the root's, two below it", br(br(lf("a")), "m", br(lf("l"), "n", lf("n"))), false},
		{"a branch's key beyond the root's", br(br(lf("a"), "n", lf("o")), "m", br(lf("m"))), false},
		{"a branch's key at the root's, ahead of it", br(br(lf("a"), "m", lf("m")), "m", br(lf("n"))), false},
		{"a branch's key at the root's, behind it", br(br(lf("a")), "m", br(lf("l"), "m", lf("n"))), false},
		{"a branch's key ahead of the root's", br(br(lf("a")), "m", br(lf("k"), "l", lf("n"))), false},
		{"a leaf deeper than the first one", br(lf("a"), "m", br(lf("m"), "n", lf("n"))), false},
		{"a leaf less deep than the first one", br(br(lf("a"), "b", lf("b")), "m", lf("m")), false},
		{"a leaf deeper than others, at last", br(br(lf("a")), "b", br(lf("b")), "c", br(br(lf("c")))), false},
		{"one leaf as both children", br(same, "m", same), false},
		{"one leaf below both children", br(br(same), "m", br(same)), false},
	} {
		if !x.ok {
			refusesCheck(t, x.what, p, x.root, api.ErrTreeForm)
		} else if n, e := Check(p, x.root); n < 2 || e != api.OK {
			t.Errorf("Check of %s: %d, %d", x.what, n, e)
		}
		// The others ask for no more than what stands on each page.
		if l, e := Pages(p, x.root); len(l) < 2 || e != api.OK {
			t.Errorf("Pages of %s: %v, %d", x.what, l, e)
		}
		for _, key := range []string{"", "a", "b", "l", "m", "n", "z"} {
			v, has, e := Get(p, x.root, key)
			if e != api.OK || has != (v == "of "+key) {
				t.Errorf("Get of %s, of %s: %s, %v, %d", key, x.what, v, has, e)
			}
		}
		if l, e := Range(p, x.root, "", "", lot); len(l) == 0 || e != api.OK {
			t.Errorf("Range of %s: %v, %d", x.what, l, e)
		}
	}
}

// P1: Put and Drop end of what is no tree, over and over, and so do the others of what that becomes.
func TestNoTreeOverAndOver(t *testing.T) {
	keys := []string{"", "a", "b", "l", "m", "n", "z", long("a", 100), long("n", 100)}
	build := []func(p *pager.Pager) int{
		func(p *pager.Pager) int { return branch(t, p, leaf(t, p, "z", ""), "m", leaf(t, p, "a", "")) },
		func(p *pager.Pager) int { return branch(t, p, leaf(t, p), "m", leaf(t, p)) },
		func(p *pager.Pager) int { return branch(t, p, leaf(t, p, "a", "")) },
		func(p *pager.Pager) int { return branch(t, p, leaf(t, p)) },
		func(p *pager.Pager) int { kid := leaf(t, p, "m", ""); return branch(t, p, kid, "m", kid) },
		func(p *pager.Pager) int { kid := branch(t, p, leaf(t, p, "m", "")); return branch(t, p, kid, "m", kid) },
		func(p *pager.Pager) int {
			return branch(t, p, leaf(t, p, "a", ""), "m", branch(t, p, leaf(t, p, "m", "")))
		},
		func(p *pager.Pager) int {
			return branch(t, p, branch(t, p, leaf(t, p, "m", "")), "m", leaf(t, p, "a", ""))
		},
		func(p *pager.Pager) int {
			return branch(t, p, leaf(t, p, "z", "", "zz", ""), "m", leaf(t, p, "zz", ""))
		},
	}
	for i, b := range build {
		for first := range keys {
			_, p := fresh(t, 300)
			root := b(p)
			for n := range 4 * len(keys) {
				key := keys[(first+n*(first+1))%len(keys)]
				value := long("v", 100-n)
				no, e := Put(p, root, key, value)
				root = next(t, fmt.Sprintf("Put to no tree %d", i), root, no, e)
				no, has, e := Drop(p, root, keys[(first+n)%len(keys)])
				root = next(t, fmt.Sprintf("Drop from no tree %d", i), root, no, e)
				if has && e != api.OK {
					t.Errorf("no tree %d: an error, and something beside it", i)
				}
				Check(p, root)
				Pages(p, root)
				Range(p, root, "", "", lot)
			}
		}
	}
}

// P9.3: what Put and Drop make of some that are no trees: keys that are beside those of another child, children of unlike kinds, a child that is its own one.
func TestNoTreeChanged(t *testing.T) {
	_, p := fresh(t, 100)
	full := leaf(t, p, long("x", 58), long("v", 57), long("z", 58), long("v", 57))
	refusesPut(t, "a leaf whose second half belongs behind the next one", p, branch(t, p, full, "m", leaf(t, p, "n", "1")), "a", api.ErrTreeForm)

	root := branch(t, p, leaf(t, p, "a", "1", "b", "2"), "m", branch(t, p, leaf(t, p, "m", "3"), "n", leaf(t, p, "n", "4")))
	root = drops(t, p, root, "a")
	ranges(t, "a leaf and a branch", p, root, pairs("b", "2", "m", "3", "n", "4"), "", "", lot)
	root = branch(t, p, branch(t, p, leaf(t, p, "a", "1"), "b", leaf(t, p, "b", "2")), "m", leaf(t, p, "m", "3", "n", "4"))
	root = drops(t, p, root, "m")
	ranges(t, "a branch and a leaf", p, root, pairs("a", "1", "b", "2", "n", "4"), "", "", lot)

	root = branch(t, p, leaf(t, p, "z", "1"), "m", leaf(t, p, "n", "2", "o", "3"))
	root = drops(t, p, root, "n") // both would fit onto a page, but not in order
	gets(t, "keys beyond their branch's", p, root, pairs("o", "3"), "o")
	ranges(t, "keys beyond their branch's", p, root, pairs("z", "1"), "", "m", lot-1)

	own := makes(t, p, 2, 0, four(p.Pages())) // a branch of itself alone
	refusesDrop(t, "a leaf beside its own child", p, branch(t, p, leaf(t, p, "a", "1"), "m", own), "a", api.ErrPagerPage)
	refusesDrop(t, "a leaf beside a page that isn't there", p, branch(t, p, leaf(t, p, "a", "1"), "m", 99), "a", api.ErrPagerPage)
}

// next is the root that a change answered, or, if it answered an error that may be, the one ahead.
func next(t *testing.T, what string, was, no int, e api.Errno) int {
	t.Helper()
	if e == api.OK {
		return no
	}
	if no != 0 || e != api.ErrTreeForm && e != api.ErrPagerPage {
		t.Errorf("%s: %d, %d", what, no, e)
	}
	return was
}

// ring makes pages each of which tells the next one as a child, and the last one the first: at which place, of two.
func ring(t *testing.T, p *pager.Pager, pages, at int, other int) int {
	t.Helper()
	first := makes(t, p, 2, 0, four(2))
	next := first
	for i := range pages {
		kids := []int{other, other}
		kids[at] = next
		if i < pages-1 {
			next = branch(t, p, kids[0], "m", kids[1])
			continue
		}
		no, e := p.Change(first, 2, 0, branchCells(kids[0], "m", kids[1]))
		be(t, "a ring", e, api.OK)
		next = no
	}
	return next
}

// P1, P9.3: pages that tell themselves, or each other, as children.
func TestRings(t *testing.T) {
	for _, pages := range []int{1, 2, 3, 50} {
		for at := range 2 {
			_, p := fresh(t, 100)
			root := ring(t, p, pages, at, leaf(t, p, "k", "1", "n", "2"))
			what := fmt.Sprintf("a ring of %d pages", pages)
			was := stateOf(p)
			into, out := []string{"a", "m"}[at], []string{"m", "a"}[at]
			refusesGet(t, what, p, root, into, api.ErrTreeForm)
			refusesPut(t, what, p, root, into, api.ErrTreeForm)
			refusesDrop(t, what, p, root, into, api.ErrTreeForm)
			refusesRange(t, what, p, root, into, "", lot, api.ErrTreeForm)
			refusesRange(t, what, p, root, "", "", lot, api.ErrTreeForm)
			refusesAll(t, what, p, root, api.ErrTreeForm)
			tells(t, what, p, was)
			gets(t, what, p, root, nil, out)
			dropsNone(t, p, root, out)
		}
	}
	for _, cells := range [][]string{{four(2)}, branchCells(2, "m", 2), branchCells(2, "", 2, "m", 2)} {
		_, p := fresh(t, 100)
		root := makes(t, p, 2, 0, cells...) // page 2, whose children are all page 2
		for _, key := range []string{"", "a", "m", "z", long("k", 100)} {
			refusesGet(t, "its own child alone", p, root, key, api.ErrTreeForm)
			refusesPut(t, "its own child alone", p, root, key, api.ErrTreeForm)
			refusesDrop(t, "its own child alone", p, root, key, api.ErrTreeForm)
			refusesRange(t, "its own child alone", p, root, key, "", 1, api.ErrTreeForm)
		}
		refusesAll(t, "its own child alone", p, root, api.ErrTreeForm)
	}
}

// P1: pages of which each tells the next one as all its children: each of these comes again and again, but every call ends.
func TestManyWays(t *testing.T) {
	_, p := fresh(t, 100)
	root := leaf(t, p, "a", "1", "n", "2")
	for i := range 39 {
		a, b, c := fmt.Sprintf("b%02d", i), fmt.Sprintf("m%02d", i), fmt.Sprintf("x%02d", i)
		root = branch(t, p, root, a, root, b, root, c, root)
	}
	refusesAll(t, "many ways", p, root, api.ErrTreeForm)
	refusesRange(t, "many ways", p, root, "", "", lot, api.ErrTreeForm)
	ranges(t, "many ways", p, root, nil, "zz", "", lot)
	ranges(t, "many ways", p, root, pairs("a", "1"), "", "", 1)
	gets(t, "many ways", p, root, pairs("a", "1"), "a")
	root = puts(t, p, root, "b", "3")
	gets(t, "many ways", p, root, pairs("b", "3"), "b")
}

// P9.3, P1: where several errors apply: the one that is named first.
func TestOrderOfErrors(t *testing.T) {
	d, p := fresh(t, 6)
	root := puts(t, p, 0, "a", "1")
	other := makes(t, p, 3, 0)
	makes(t, p, 3, 0)
	makes(t, p, 3, 0) // the disk is full
	commits(t, p, root)
	d.Fuse(0)
	for _, r := range []int{0, root, other, -1, 1, 9} {
		if no, e := Put(p, r, long("k", 101), ""); no != 0 || e != api.ErrTreeLong {
			t.Errorf("Put of too much: %d, %d", no, e)
		}
	}
	refusesPut(t, "no page", p, 9, "a", api.ErrPagerPage)
	refusesPut(t, "no tree's page", p, other, "a", api.ErrTreeForm)
	refusesPut(t, "a full disk, which is dead", p, root, "a", api.ErrPagerFull)
	refusesPut(t, "a full disk, which is dead", p, 0, "a", api.ErrPagerFull)
	refusesDrop(t, "no page", p, 9, "a", api.ErrPagerPage)
	refusesDrop(t, "no tree's page", p, other, "a", api.ErrTreeForm)
	answers(t, "a dead disk", p, root, pairs("a", "1"))
	if no := drops(t, p, root, "a"); no != 0 { // which writes nothing
		t.Errorf("root %d", no)
	}
	_, p = fresh(t, 100)
	deep := leaf(t, p)
	for range 39 {
		deep = branch(t, p, deep)
	}
	missing := branch(t, p, 90) // the page that isn't there is the 41st one
	for range 38 {
		missing = branch(t, p, missing)
	}
	missing = branch(t, p, missing, "m", deep)
	refusesAll(t, "too deep a page that isn't there", p, missing, api.ErrPagerPage)
}

// change is a change of a tree, and of a list.
type change struct {
	what string
	do   func(p *pager.Pager, root int) (int, api.Errno)
	list func(l plain) plain
}

// changesOf is changes of a tree, with many pages to be written, or few.
func changesOf(l plain) []change {
	var list []change
	for _, i := range []int{0, len(l) / 2, len(l) - 1} {
		key := l[i][0]
		other := key[:3] + "x"
		list = append(list,
			change{"another value", func(p *pager.Pager, root int) (int, api.Errno) { return Put(p, root, key, "w") }, func(l plain) plain { return l.put(key, "w") }},
			change{"a key more", func(p *pager.Pager, root int) (int, api.Errno) { return Put(p, root, long(other, 100), long("v", 100)) }, func(l plain) plain { return l.put(long(other, 100), long("v", 100)) }},
			change{"a key less", func(p *pager.Pager, root int) (int, api.Errno) {
				root, _, e := Drop(p, root, key)
				return root, e
			}, func(l plain) plain { return l.drop(key) }},
		)
	}
	return list
}

// grownAndTold is a tree of long keys that was told, on a disk of at most so many pages.
func grownAndTold(t *testing.T, most int) (*disk.Disk, *pager.Pager, int, plain) {
	t.Helper()
	d, p := fresh(t, most)
	root, l := grown(t, p, 30, 70)
	commits(t, p, root)
	return d, p, root, l
}

// P9.2: a disk that dies at each write of a change: the error, and aborted the pager is as before, and so is the tree; behind a crash the change can be done.
func TestDies(t *testing.T) {
	_, _, _, l := grownAndTold(t, 500)
	for i, c := range changesOf(l) {
		most := 0
		for fuse := 0; ; fuse++ {
			d, p, root, l := grownAndTold(t, 500)
			was := stateOf(p)
			d.Fuse(fuse)
			no, e := c.do(p, root)
			if e == api.OK {
				answers(t, c.what, p, no, c.list(l))
				break
			}
			most = fuse + 1
			if no != 0 || e != api.ErrDiskDead {
				t.Fatalf("%d, %s, behind %d writes: %d, %d", i, c.what, fuse, no, e)
			}
			answers(t, c.what+", as told", p, root, l)
			p.Abort()
			tells(t, c.what+", aborted", p, was)
			answers(t, c.what+", aborted", p, root, l)
			d.Crash(nil)
			no, e = c.do(p, root)
			be(t, c.what+", again", e, api.OK)
			seen := answers(t, c.what+", again", p, no, c.list(l))
			covers(t, c.what+", again", p, seen.pages)
			commits(t, p, no)
		}
		if most < 3 {
			t.Errorf("%d, %s: %d writes alone", i, c.what, most)
		}
	}
}

// P9.2: a disk that has no room, or for a part alone: the error, and aborted the pager is as before, and so is the tree.
func TestFull(t *testing.T) {
	_, all, _, l := grownAndTold(t, 500)
	for i, c := range changesOf(l) {
		most := 0
		for room := 0; ; room++ {
			_, p, root, l := grownAndTold(t, all.Pages()+room)
			was := stateOf(p)
			no, e := c.do(p, root)
			if e == api.OK {
				answers(t, c.what, p, no, c.list(l))
				break
			}
			most = room + 1
			if no != 0 || e != api.ErrPagerFull {
				t.Fatalf("%d, %s, with room for %d pages: %d, %d", i, c.what, room, no, e)
			}
			answers(t, c.what+", as told", p, root, l)
			p.Abort()
			tells(t, c.what+", aborted", p, was)
			answers(t, c.what+", aborted", p, root, l)
		}
		if most < 3 {
			t.Errorf("%d, %s: room for %d pages alone", i, c.what, most)
		}
	}
	// Keys are put till there is no room: what was told last is there still.
	_, p := fresh(t, 60)
	root, list, told := 0, plain(nil), plain(nil)
	for i := range 1000 {
		key := long(fmt.Sprintf("%03d", i*37%1000), 60)
		no, e := Put(p, root, key, key)
		if e != api.OK {
			be(t, "Put", e, api.ErrPagerFull)
			break
		}
		root, list = no, list.put(key, key)
		if i%5 == 0 && p.Commit(root) == api.OK {
			told = list
		}
	}
	if len(told) < 10 || len(told) > 120 {
		t.Errorf("%d keys", len(told))
	}
	p.Abort()
	answers(t, "full", p, p.Super().Root, told)
}

// Nothing that is handed in is kept, and nothing that is handed out.
func TestMemory(t *testing.T) {
	_, p := fresh(t, 400)
	root, l := 0, plain(nil)
	key, value := make([]byte, 30), make([]byte, 30)
	for i := range 40 {
		copy(key, fmt.Sprintf("%030d", i*7%40))
		copy(value, fmt.Sprintf("%030d", i))
		root, l = puts(t, p, root, string(key), string(value)), l.put(string(key), string(value))
	}
	for range 2 {
		list, e := Range(p, root, "", "", lot)
		be(t, "Range", e, api.OK)
		clear(list[:cap(list)])
		pages, e := Pages(p, root)
		be(t, "Pages", e, api.OK)
		clear(pages[:cap(pages)])
		answers(t, "behind it", p, root, l)
	}
	a, _ := Range(p, root, "", "", lot)
	b, _ := Range(p, root, "", "", lot)
	a[0][0] = "turned"
	c, _ := Pages(p, root)
	d, _ := Pages(p, root)
	c[0]++
	if b[0] != l[0] || slices.Equal(c, d) {
		t.Error("two answers share their memory")
	}
}
