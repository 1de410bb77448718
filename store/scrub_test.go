package store

import (
	"fmt"
	"math/rand"
	"slices"
	"testing"

	"lunette/api"
	"lunette/disk"
)

// union is all numbers of some lists, rising, each once.
func union(l ...[]int) []int {
	return slices.Compact(slices.Sorted(slices.Values(slices.Concat(l...))))
}

// common is the numbers of a list that another one has, too, rising.
func common(l, other []int) []int {
	return slices.DeleteFunc(union(l), func(no int) bool { return !slices.Contains(other, no) })
}

// pinned is a store with pinned versions, and the pages of their trees.
type pinned struct {
	d     *disk.Disk
	s     *Store
	trees map[int][]int
}

// newPinned is a store with three pinned versions, and the newest one, which has pages that none of them has.
func newPinned(t *testing.T) pinned {
	t.Helper()
	x := pinned{trees: map[int][]int{}}
	x.d, x.s, _ = grown(t, 1000, 60, 30)
	for i := range 40 {
		writes(t, x.s, put(long(fmt.Sprintf("k%03d", i*7%60), 30), fmt.Sprint(i)))
		if i%15 == 0 {
			be(t, "Pin", x.s.Pin(x.s.Now()), api.OK)
			x.trees[x.s.Now()] = laidOn(t, x.d).tree
		}
	}
	return x
}

// needed is the pages that are needed, by what was told of them when they were made.
func (x pinned) needed(t *testing.T) []int {
	t.Helper()
	l := laidOn(t, x.d)
	needed := slices.Concat(l.tree, l.chain)
	for _, tree := range x.trees {
		needed = append(needed, tree...)
	}
	return union(needed)
}

// P10.4: each page that is turned is told, if a version that is there, or the free list, needs it, and no other one.
func TestScrub(t *testing.T) {
	x := newPinned(t)
	l, needed := laidOn(t, x.d), x.needed(t)
	if len(l.chain) < 2 || len(needed) == l.pages-2 {
		t.Fatalf("%+v: %v are needed", l, needed)
	}
	for v, tree := range x.trees { // each has pages that no other one has
		others := x.trees
		for o, other := range others {
			if o != v && len(common(tree, other)) == len(tree) {
				t.Fatalf("%d has no pages of its own", v)
			}
		}
	}
	scrubs(t, "whole", x.s)
	for no := range x.d.Pages() {
		turn(t, x.d, no)
		scrubs(t, fmt.Sprintf("%d is turned", no), x.s, common([]int{no}, needed)...)
		turn(t, x.d, no)
		scrubs(t, fmt.Sprintf("%d is turned back", no), x.s)
	}
}

// P10.4: all that are turned at once are told, also those below others.
func TestScrubOfMany(t *testing.T) {
	for seed := range 4 {
		x := newPinned(t)
		needed := x.needed(t)
		var turned []int
		for i, no := range rand.New(rand.NewSource(int64(seed))).Perm(x.d.Pages()) {
			turn(t, x.d, no)
			turned = append(turned, no)
			scrubs(t, fmt.Sprintf("%v are turned", turned), x.s, common(turned, needed)...)
			if i%20 == 0 {
				x.d.Fuse(0) // a dead disk tells the same
			}
		}
		scrubs(t, "all are turned", x.s, needed...)
	}
}

// P10.4: a page that tells another number.
func TestScrubOfOthers(t *testing.T) {
	x := newPinned(t)
	l := laidOn(t, x.d)
	for _, no := range x.needed(t) {
		was, e := x.d.Read(no)
		be(t, "a page", e, api.OK)
		other, e := x.d.Read(l.tree[(slices.Index(l.tree, no)+1)%len(l.tree)])
		be(t, "another page", e, api.OK)
		be(t, "Spoil", x.d.Spoil(no, 0, other), api.OK)
		scrubs(t, "another page's bytes", x.s, no)
		be(t, "Spoil", x.d.Spoil(no, 0, was), api.OK)
		scrubs(t, "its own bytes", x.s)
		be(t, "Spoil", x.d.Spoil(no, 0, make([]byte, api.PageSize)), api.OK)
		scrubs(t, "noughts", x.s, no)
		be(t, "Spoil", x.d.Spoil(no, 0, was), api.OK)
	}
}

// P10.4: what is let go isn't needed any more.
func TestScrubOfLetGo(t *testing.T) {
	x := newPinned(t)
	all := union(laidOn(t, x.d).tree, laidOn(t, x.d).chain)
	for no := 2; no < x.d.Pages(); no++ {
		if !slices.Contains(all, no) { // the others stay whole
			turn(t, x.d, no)
		}
	}
	older := 0
	for v := range 60 {
		tree, ok := x.trees[v]
		if !ok {
			continue
		}
		scrubs(t, "pinned", x.s, slices.DeleteFunc(x.needed(t), func(no int) bool { return slices.Contains(all, no) })...)
		be(t, "Unpin", x.s.Unpin(v), api.OK)
		delete(x.trees, v)
		older += len(tree)
	}
	scrubs(t, "let go", x.s)
	if older == 0 {
		t.Fatal("nothing was pinned")
	}
}

// P10.4: pages that were turned ahead of Pin, below others that are, too.
func TestScrubOfPinnedTurned(t *testing.T) {
	d, s, _ := grown(t, 500, 60, 30)
	tree := laidOn(t, d).tree
	for _, no := range tree {
		turn(t, d, no)
	}
	scrubs(t, "the newest one", s, tree...)
	be(t, "Pin", s.Pin(2), api.OK)
	writes(t, s)
	scrubs(t, "and a pinned one", s, tree...)
	r := opened(t, d)
	scrubs(t, "opened", r, tree...)
	for _, no := range tree {
		turn(t, d, no)
	}
	scrubs(t, "turned back", s)
}

// P10.4: a page that is turned and then not needed, as another one stands in its place, isn't told; nor, when it is used again.
func TestScrubOfReplaced(t *testing.T) {
	d, s, c := grown(t, 500, 60, 30)
	no := laidOn(t, d).tree[0]
	bad := below(t, d, no)
	turn(t, d, no)
	scrubs(t, "turned", s, no)
	for i := range 20 {
		writes(t, s, put("~", fmt.Sprint(i))) // elsewhere
		scrubs(t, "turned, some later", s, no)
	}
	turn(t, d, no)
	writes(t, s, drop(bad[0]))
	turn(t, d, no)
	scrubs(t, "another one stands for it", s)
	for i := range 20 {
		writes(t, s, put("~", fmt.Sprint(i)), put(bad[0], fmt.Sprint(i)))
	}
	scrubs(t, "used again", s)
	has(t, "used again", s, s.Now(), c.with(put("~", "19"), put(bad[0], "19")))
}

// P10.4: how many pages there are, and how many of the free ones may be used, by the oldest version that is there.
func TestRoom(t *testing.T) {
	d, s := fresh(t, 1000)
	var pins []int
	look := func(what string) {
		t.Helper()
		l := laidOn(t, d)
		room(t, what, s, l.usable(slices.Min(append([]int{s.Now()}, pins...))), l.pages)
	}
	for i := range 80 {
		writes(t, s, put(fmt.Sprint(i*7%30), long("", i)), drop(fmt.Sprint(i*3%30)))
		look("written")
		if i%9 == 0 {
			be(t, "Pin", s.Pin(s.Now()), api.OK)
			pins = append(pins, s.Now())
			look("pinned")
		}
		if i%11 == 10 {
			at := i % len(pins)
			be(t, "Unpin", s.Unpin(pins[at]), api.OK)
			pins = slices.Delete(pins, at, at+1)
			look("let go")
		}
	}
	many := -1
	for _, v := range slices.Clone(pins) {
		if usable, _ := s.Room(); usable < many {
			t.Fatalf("%d pages may be used, then %d", many, usable)
		} else {
			many = usable
		}
		be(t, "Unpin", s.Unpin(v), api.OK)
		pins = slices.DeleteFunc(pins, func(p int) bool { return p == v })
		look("let go")
	}
	l := laidOn(t, d)
	room(t, "nothing is pinned", s, len(l.free), l.pages)
}

// P10.2 to P10.5: pages of a version that is pinned are as they were; behind that they are used again, and no more are made.
func TestUsedAgain(t *testing.T) {
	d, s, c := grown(t, 1000, 30, 40)
	be(t, "Pin", s.Pin(2), api.OK)
	tree := laidOn(t, d).tree
	bytes := func() []string {
		var l []string
		for _, no := range tree {
			b, e := d.Read(no)
			be(t, "a page", e, api.OK)
			l = append(l, string(b))
		}
		return l
	}
	was := bytes()
	all := func(value string) {
		t.Helper()
		var l []api.Change
		for _, x := range many(30, 40) {
			l = append(l, put(x.Key, value))
		}
		writes(t, s, l...)
	}
	for i := range 30 {
		all(fmt.Sprint(i))
		if !slices.Equal(bytes(), was) {
			t.Fatalf("pages of a pinned version are changed, %d later", i)
		}
		has(t, "pinned", s, 2, c)
	}
	be(t, "Unpin", s.Unpin(2), api.OK)
	_, pages := s.Room()
	for i := range 30 {
		all(fmt.Sprint(i))
	}
	if _, now := s.Room(); now != pages {
		t.Errorf("%d pages, then %d", pages, now)
	}
	for i, b := range bytes() {
		if b == was[i] {
			t.Errorf("page %d isn't used again", tree[i])
		}
	}
	// Without pins a few pages are enough, however many versions there are.
	_, s = fresh(t, 1000)
	for i := range 300 {
		writes(t, s, put("a", fmt.Sprint(i)))
	}
	room(t, "one page, again and again", s, 2, 6)
}
