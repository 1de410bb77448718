package store

import (
	"fmt"
	"slices"
	"testing"

	"lunette/api"
	"lunette/disk"
	"lunette/page"
	"lunette/pager"
	"lunette/sum"
	"lunette/super"
	"lunette/tree"
)

// below is the keys that stand on a page of a tree, or below it.
func below(t *testing.T, d *disk.Disk, no int) []string {
	t.Helper()
	p, e := pager.Open(d.Copy())
	be(t, "a pager", e, api.OK)
	l, e := tree.Range(p, no, "", "", lot)
	be(t, "a page's keys", e, api.OK)
	var keys []string
	for _, kv := range l {
		keys = append(keys, kv[0])
	}
	return keys
}

// P10.2: how often a key can be put on disks that are too small, by the pages that chapter 8's words take.
func TestNoRoom(t *testing.T) {
	for most, want := range map[int]int{
		2: 0, // there is no page for a leaf
		3: 1, // nor for another one, while that one is read
		4: 1, // nor for the chain that tells that one
		5: 2, // nor for another one, while that one is read
		6: lot,
	} {
		_, s := fresh(t, most)
		var c content
		for i := range min(want, 50) {
			writes(t, s, put("a", fmt.Sprint(i)))
			c = content{"a": fmt.Sprint(i)}
		}
		has(t, "as far as there is room", s, s.Now(), c)
		if want == lot {
			continue
		}
		for range 3 {
			refuses(t, fmt.Sprintf("%d pages", most), s, api.ErrStoreFull, put("a", "no"))
			refuses(t, fmt.Sprintf("%d pages", most), s, api.ErrStoreFull, put("b", "no"), put("a", "no"))
			refuses(t, "too long", s, api.ErrStoreLong, put("a", "no"), drop(long("", 101)))
		}
		has(t, "behind errors", s, s.Now(), c)
	}
	_, s := fresh(t, 2)
	for range 9 {
		writes(t, s) // nothing takes nothing
		writes(t, s, drop("a"))
	}
}

// P10.2, P10.3: what is pinned takes room, till it is let go.
func TestRoomOfPins(t *testing.T) {
	_, s := fresh(t, 12)
	writes(t, s, put("a", "old"))
	be(t, "Pin", s.Pin(2), api.OK)
	be(t, "Pin", s.Pin(2), api.OK)
	count := 0
	for e := api.OK; e == api.OK; count++ {
		_, e = s.Write([]api.Change{put("a", fmt.Sprint(count))})
	}
	refuses(t, "with a pin", s, api.ErrStoreFull, put("a", "no"))
	be(t, "Unpin", s.Unpin(2), api.OK)
	refuses(t, "with a pin still", s, api.ErrStoreFull, put("a", "no"))
	has(t, "pinned", s, 2, content{"a": "old"})
	be(t, "Unpin", s.Unpin(2), api.OK)
	for i := range 50 {
		writes(t, s, put("a", fmt.Sprint(i)))
	}
	if usable, pages := s.Room(); usable != pages-4 { // all but the supers, the leaf and the chain
		t.Errorf("%d of %d pages may be used", usable, pages)
	}
}

// P10.2: there is no room only if there isn't: a put takes a leaf more at most, a page of each depth more, and the chain.
func TestRoomIsUsed(t *testing.T) {
	for most := 10; most < 60; most += 7 {
		_, s := fresh(t, most)
		n := 0
		for ; ; n++ {
			usable, pages := s.Room()
			v, e := s.Write([]api.Change{put(long(fmt.Sprint(n*7%1000), 60), "")})
			if e == api.OK {
				continue
			}
			be(t, "a put too many", e, api.ErrStoreFull)
			if v != 0 || usable+most-pages > 2*4+3 {
				t.Errorf("%d pages: %d may be used, and %d be made, and there is no room", most, usable, most-pages)
			}
			break
		}
		if n < most/2 {
			t.Errorf("%d pages: %d keys", most, n)
		}
	}
}

// P10.2, P10.3: a page that is turned is told by whatever needs it, and by nothing else; nothing is answered wrongly, and nothing changed.
func TestTurned(t *testing.T) {
	d, s, c := grown(t, 500, 60, 30)
	writes(t, s, put("k010x", "1"))
	c = c.with(put("k010x", "1"))
	be(t, "Pin", s.Pin(s.Now()), api.OK)
	for _, no := range laidOn(t, d).tree {
		bad := below(t, d, no)
		if len(bad) == 0 {
			t.Fatalf("page %d has no keys", no)
		}
		turn(t, d, no)
		refusesRead(t, "from the first key on", s, s.Now(), bad[0], api.ErrStoreBad)
		if l, e := s.Range(s.Now(), "", "", lot); l != nil || e != api.ErrStoreBad {
			t.Fatalf("Range of all: %v, %d", l, e)
		}
		for key := range c {
			if slices.Contains(bad, key) {
				refusesRead(t, "turned", s, s.Now(), key, api.ErrStoreBad)
				refuses(t, "turned", s, api.ErrStoreBad, put(key, "no"))
				refuses(t, "turned", s, api.ErrStoreBad, drop(key))
				refuses(t, "turned", s, api.ErrStoreBad, put("k", "1"), put("~", "1"), drop(key+"x"), drop(key))
			} else {
				gets(t, "another one is turned", s, s.Now(), c, key)
				ranges(t, "another one is turned", s, s.Now(), c, key, key+"\x00", lot)
			}
		}
		for key := range c { // each on a disk of its own
			if !slices.Contains(bad, key) {
				other := d.Copy()
				r := opened(t, other)
				writes(t, r, put(key, "new"))
				gets(t, "written", r, r.Now(), content{key: "new"}, key)
				scrubs(t, "written", r, no)
			}
		}
		turn(t, d, no)
		has(t, "turned back", s, s.Now(), c)
	}
	be(t, "Unpin", s.Unpin(s.Now()), api.OK)
	be(t, "Unpin", s.Unpin(s.Now()), api.ErrStoreToken)
}

// P10.2: a page that isn't needed may be turned: a chain's, a free one, a super.
func TestTurnedUnneeded(t *testing.T) {
	d, s, c := grown(t, 500, 60, 30)
	for i := range 5 {
		writes(t, s, put("a", fmt.Sprint(i)))
	}
	l := laidOn(t, d)
	if len(l.chain) == 0 || l.usable(s.Now()) == 0 {
		t.Fatalf("%+v has no such pages", l)
	}
	turn(t, d, 0)
	turn(t, d, 1)
	for _, no := range l.chain {
		turn(t, d, no)
	}
	for _, f := range l.free {
		turn(t, d, f.Page)
	}
	has(t, "turned", s, s.Now(), c.with(put("a", "4")))
	scrubs(t, "a chain is turned", s, l.chain...)
	writes(t, s, put("a", "new"))
	has(t, "written", s, s.Now(), c.with(put("a", "new")))
	scrubs(t, "another chain tells all", s)
	writes(t, s, put("a", "newer"))
	has(t, "opened", opened(t, d), s.Now(), c.with(put("a", "newer")))
}

// P10.3: pages that can be read, but are no tree's, are told as those that are turned.
func TestNoTree(t *testing.T) {
	for _, kind := range []int{1, 3} {
		d := newDisk(t, 50)
		p, e := pager.Open(d)
		be(t, "a pager", e, api.OK)
		no, e := p.New(kind, 0, []string{"\x09a"})
		be(t, "a page", e, api.OK)
		be(t, "Commit", p.Commit(no), api.OK)
		s := opened(t, d)
		refusesRead(t, "no tree", s, 2, "a", api.ErrStoreBad)
		refuses(t, "no tree", s, api.ErrStoreBad, put("a", "1"))
		refuses(t, "no tree", s, api.ErrStoreBad, drop("a"))
		scrubs(t, "no tree", s)
		writes(t, s)
	}
}

// P1: at the greatest version that pages can tell, none follows.
func TestLastVersion(t *testing.T) {
	d := newDisk(t, 50)
	be(t, "Grow", d.Grow(2), api.OK)
	b, slot, e := super.Put(sum.New(), api.Super{Epoch: 1<<32 - 1, Pages: 2})
	be(t, "a super", e, api.OK)
	be(t, "a write", d.Write(slot, b), api.OK)
	s := opened(t, d)
	if s.Now() != 1<<32-1 {
		t.Fatalf("version %d", s.Now())
	}
	for _, l := range [][]api.Change{nil, {put("a", "1")}, {drop("a")}} {
		if v, e := s.Write(l); v != 0 || e != api.ErrStoreBad {
			t.Errorf("Write of %v: %d, %d", l, v, e)
		}
	}
	has(t, "the last one", s, 1<<32-1, nil)
	be(t, "Pin", s.Pin(1<<32-1), api.OK)
}

// P10.2, P10.3: behind whatever is done on a dead disk all is read as it was, pinned and let go; only Write tells that it is dead.
func TestDead(t *testing.T) {
	d, s, c := grown(t, 500, 60, 30)
	be(t, "Pin", s.Pin(2), api.OK)
	writes(t, s, put("a", "1"))
	newer := c.with(put("a", "1"))
	d.Fuse(0)
	for range 3 {
		refuses(t, "dead", s, api.ErrStoreDead)
		refuses(t, "dead", s, api.ErrStoreDead, put("a", "no"))
		refuses(t, "dead", s, api.ErrStoreDead, drop("no key"))
		refuses(t, "dead", s, api.ErrStoreDead, many(100, 30)...)
		refuses(t, "dead", s, api.ErrStoreLong, put("a", "no"), put(long("", 101), ""))
		be(t, "Pin", s.Pin(3), api.OK)
		has(t, "dead", s, 2, c)
		has(t, "dead", s, 3, newer)
		scrubs(t, "dead", s)
	}
	for range 3 {
		be(t, "Unpin", s.Unpin(3), api.OK)
	}
	be(t, "Unpin", s.Unpin(3), api.ErrStoreToken)
	be(t, "Unpin", s.Unpin(2), api.OK)
	gone(t, "let go", s, 2)
	has(t, "dead", s, 3, newer)
}

// answers holds Write's answer on a copy of a disk that is opened, and then dies behind so many writes and syncs, and that nothing is changed.
func answers(t *testing.T, what string, d *disk.Disk, fuse int, want api.Errno, l ...api.Change) {
	t.Helper()
	d = d.Copy()
	s := opened(t, d)
	d.Fuse(fuse)
	refuses(t, fmt.Sprintf("%s, dead behind %d", what, fuse), s, want, l...)
}

// P10.2: of no room and a dead disk, no room is told, wherever the disk dies.
func TestFullAheadOfDead(t *testing.T) {
	for most := 3; most < 30; most++ {
		d, s := fresh(t, most)
		for i := 0; ; i++ {
			l := []api.Change{put(long(fmt.Sprint(i*7%100), 90), ""), put(long(fmt.Sprint(i*3%100), 90), "")}
			was := d.Copy()
			if _, e := s.Write(l); e == api.OK {
				continue
			}
			for fuse := range 12 {
				answers(t, fmt.Sprintf("%d pages", most), was, fuse, api.ErrStoreFull, l...)
			}
			break
		}
	}
}

// P10.2: the room that pins take counts, too.
func TestFullByPinsAheadOfDead(t *testing.T) {
	d, s := fresh(t, 12)
	writes(t, s, put("a", "old"))
	be(t, "Pin", s.Pin(2), api.OK)
	for e := api.OK; e == api.OK; {
		_, e = s.Write([]api.Change{put("a", "new")})
	}
	d.Fuse(1)
	refuses(t, "dead behind 1", s, api.ErrStoreFull, put("a", "no"))
	refuses(t, "dead", s, api.ErrStoreFull, put("a", "no"))
	be(t, "Unpin", s.Unpin(2), api.OK)
	refuses(t, "dead, and nothing pinned", s, api.ErrStoreDead, put("a", "no"))
}

// P10.2: of a page that is turned and a dead disk, the page is told, wherever the disk dies, and whichever change needs it.
func TestTurnedAheadOfDead(t *testing.T) {
	d, s, c := grown(t, 500, 60, 30)
	tree := laidOn(t, d).tree
	var keys []string
	for _, kv := range c.stretch("", "", lot) {
		keys = append(keys, kv[0])
	}
	for _, no := range tree {
		bad := below(t, d, no)
		l := []api.Change{}
		for _, key := range keys {
			if !slices.Contains(bad, key) {
				l = append(l, put(key, "new"))
			}
		}
		l = append(l, put(bad[0], "new"))
		turn(t, d, no)
		for fuse := range 12 {
			answers(t, "turned", d, fuse, api.ErrStoreBad, l...)
			answers(t, "turned", d, fuse, api.ErrStoreBad, append(slices.Clone(l), put("z", "1"))...)
		}
		answers(t, "turned", d, 0, api.ErrStoreLong, append(slices.Clone(l), drop(long("", 101)))...)
		turn(t, d, no)
		for fuse := range 5 {
			answers(t, "turned back", d, fuse, api.ErrStoreDead, l...)
		}
	}
	has(t, "at last", s, 2, c)
}

// P10.2: a version that was all but made, as its super alone wasn't synced, hides nothing, either.
func TestTurnedBehindLastSync(t *testing.T) {
	d, s, c := grown(t, 500, 60, 30)
	one := []api.Change{put("a", "1")} // on the way to the first leaf
	tree := laidOn(t, d).tree
	at := slices.IndexFunc(tree, func(no int) bool { return below(t, d, no)[0] > long("k000", 30) })
	bad := below(t, d, tree[at])
	d.Fuse(steps(t, d, one) - 1)
	refuses(t, "dead", s, api.ErrStoreDead, one...)
	if d.Loose() != 1 {
		t.Fatalf("%d writes aren't synced", d.Loose())
	}
	turn(t, d, tree[at])
	refuses(t, "dead", s, api.ErrStoreDead, one...)
	refuses(t, "dead and turned", s, api.ErrStoreBad, one[0], put(bad[0], "1"))
	turn(t, d, tree[at])
	has(t, "turned back", s, 2, c)
}

// P10.2: of no room and a page that is turned, no room is told, if there is none for the other changes, wherever that page comes.
func TestFullAheadOfTurned(t *testing.T) {
	d, s, _ := grown(t, 40, 20, 60)
	no := laidOn(t, d).tree[0]
	bad := below(t, d, no)
	if len(bad) == 20 {
		t.Fatal("it is the root")
	}
	var l []api.Change
	for i := range 60 {
		l = append(l, put(long(fmt.Sprintf("l%03d", i), 90), ""))
	}
	refuses(t, "no room", s, api.ErrStoreFull, l...)
	turn(t, d, no)
	refuses(t, "turned", s, api.ErrStoreBad, put(bad[0], "1"))
	first := append([]api.Change{put(bad[0], "1"), drop(bad[0])}, l...)
	refuses(t, "turned, and no room", s, api.ErrStoreFull, first...)
	refuses(t, "no room, and turned", s, api.ErrStoreFull, append(slices.Clone(l), drop(bad[0]))...)
	refuses(t, "turned, and room", s, api.ErrStoreBad, first[:4]...)
	for fuse := range 12 {
		answers(t, "all at once", d, fuse, api.ErrStoreFull, first...)
		answers(t, "all but no room", d, fuse, api.ErrStoreBad, first[:4]...)
	}
}

// P10.2: what is told is the newest version's: if what leads to it is turned, too, a dead disk is told, and nothing of an older version.
func TestDeadWithoutSuper(t *testing.T) {
	d, s := fresh(t, 100)
	for i := 2; i < 6; i++ {
		writes(t, s, put("a", fmt.Sprint(i)))
	}
	older := laidOn(t, d)
	writes(t, s, put("a", "6"))
	now := laidOn(t, d)
	if slices.Equal(older.tree, now.tree) {
		t.Fatal("both have one tree")
	}
	turn(t, d, older.tree[0])
	turn(t, d, 0) // version 6's
	d.Fuse(0)
	refuses(t, "dead", s, api.ErrStoreDead, put("a", "7"))
	turn(t, d, 1)
	refuses(t, "dead, without a super", s, api.ErrStoreDead, put("a", "7"))
	turn(t, d, 0)
	turn(t, d, 1)
	turn(t, d, now.chain[0])
	refuses(t, "dead, without a chain", s, api.ErrStoreDead, put("a", "7"))
	has(t, "dead", s, 6, content{"a": "6"})
}

// P10.2: a store that had errors answers, from then on, as one that hadn't.
func TestAsIfNot(t *testing.T) {
	const most = 120
	d, s := fresh(t, most)
	_, r := fresh(t, most)
	for i := range 60 {
		if i%10 == 3 {
			be(t, "Pin", s.Pin(s.Now()), api.OK)
			be(t, "Pin", r.Pin(r.Now()), api.OK)
		}
		if i%10 == 8 {
			be(t, "Unpin", s.Unpin(i-4), api.OK)
			be(t, "Unpin", r.Unpin(i-4), api.OK)
		}
		refuses(t, "too long", s, api.ErrStoreLong, put("a", "1"), drop("k001"), put("", long("", 101)))
		refuses(t, "no room", s, api.ErrStoreFull, many(400, 100)...)
		if tree := laidOn(t, d).tree; len(tree) > 0 {
			bad := below(t, d, tree[i%len(tree)])[0]
			turn(t, d, tree[i%len(tree)])
			refuses(t, "turned", s, api.ErrStoreBad, put("a", "1"), drop("k001"), put("~", "2"), put(bad, "3"))
			turn(t, d, tree[i%len(tree)])
		}
		d.Fuse(i % 7)
		refuses(t, "dead", s, api.ErrStoreDead, put("a", "1"), drop("k001"), put("~", "2"), put("k003", "3"), put("k004", ""))
		d.Crash(nil)
		l := []api.Change{put(fmt.Sprintf("k%03d", i%30), long("", i)), drop(fmt.Sprintf("k%03d", i*7%30))}
		writes(t, s, l...)
		writes(t, r, l...)
		looks(t, "as if it hadn't been", s, pictureOf(r))
	}
	for no := range d.Pages() {
		if b, e := s.disk.Read(no); e == api.OK && no < r.disk.Pages() {
			same(t, no, b, r.disk)
		}
	}
}

// same holds a page's bytes against those of another disk, if they are a page's that is needed.
func same(t *testing.T, no int, b []byte, d *disk.Disk) {
	t.Helper()
	l := laidOn(t, d)
	if no > 1 && !slices.Contains(slices.Concat(l.tree, l.chain), no) {
		return
	}
	other, e := d.Read(no)
	be(t, "the other page", e, api.OK)
	p, e := page.Get(sum.New(), b)
	be(t, "a page", e, api.OK)
	q, e := page.Get(sum.New(), other)
	be(t, "the other page", e, api.OK)
	if !page.Same(p, q) {
		t.Errorf("page %d: %v, not %v", no, p, q)
	}
}
