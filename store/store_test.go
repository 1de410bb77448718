package store

import (
	"fmt"
	"math"
	"slices"
	"strings"
	"testing"

	"lunette/api"
	"lunette/disk"
)

// The chapter's example.
func TestExample(t *testing.T) {
	_, s := fresh(t, 100)
	if s.Now() != 1 {
		t.Fatalf("a fresh disk's version is %d", s.Now())
	}
	if v, e := s.Write([]api.Change{put("a", "x")}); v != 2 || e != api.OK {
		t.Fatalf("Write of a: x: %d, %d", v, e)
	}
	be(t, "Pin(2)", s.Pin(2), api.OK)
	if v, e := s.Write([]api.Change{put("a", "y")}); v != 3 || e != api.OK {
		t.Fatalf("Write of a: y: %d, %d", v, e)
	}
	gets(t, "pinned", s, 2, content{"a": "x"}, "a")
	gets(t, "the newest one", s, 3, content{"a": "y"}, "a")
	gone(t, "the first one", s, 1)
}

// P10.1: a fresh disk, of any pages that are none's, is version 1 without anything.
func TestOpenFresh(t *testing.T) {
	for pages := range 3 {
		d := newDisk(t, 50)
		be(t, "Grow", d.Grow(pages), api.OK)
		s := opened(t, d)
		if s.Now() != 1 {
			t.Errorf("%d pages: version %d", pages, s.Now())
		}
		has(t, "fresh", s, 1, nil)
		room(t, "fresh", s, 0, 2)
		scrubs(t, "fresh", s)
		be(t, "Unpin(1)", s.Unpin(1), api.ErrStoreToken)
		gone(t, "fresh", s, 0)
		gone(t, "fresh", s, 2)
		be(t, "Pin(1)", s.Pin(1), api.OK)
	}
}

// P10.1: a disk that was written has the newest version alone; nothing is pinned.
func TestOpenAgain(t *testing.T) {
	d, s := fresh(t, 200)
	var c content
	for i := range 20 {
		be(t, "Pin", s.Pin(s.Now()), api.OK)
		l := []api.Change{put(fmt.Sprint(i%7), fmt.Sprint(i)), drop(fmt.Sprint(i * 3 % 7))}
		writes(t, s, l...)
		c = c.with(l...)
		r := opened(t, d.Copy())
		if r.Now() != s.Now() {
			t.Fatalf("version %d, not %d", r.Now(), s.Now())
		}
		has(t, "opened again", r, r.Now(), c)
		for v := range r.Now() {
			gone(t, "opened again", r, v)
		}
		be(t, "Unpin", r.Unpin(r.Now()), api.ErrStoreToken)
		l2 := laidOn(t, d)
		room(t, "opened again", r, l2.usable(r.Now()), l2.pages)
	}
}

// P10.1: the newer one of both supers that is whole tells the version.
func TestOpenOneSuper(t *testing.T) {
	d, s := fresh(t, 50)
	writes(t, s, put("a", "2"))
	writes(t, s, put("a", "3"))
	turn(t, d, 0) // version 2's
	has(t, "the older one is turned", opened(t, d), 3, content{"a": "3"})
	turn(t, d, 0)
	turn(t, d, 1)
	has(t, "the newer one is turned", opened(t, d), 2, content{"a": "2"})
}

// refusesOpen holds Open's answer against an error, and nothing beside it.
func refusesOpen(t *testing.T, what string, d *disk.Disk, want api.Errno) {
	t.Helper()
	if s, e := Open(d); s != nil || e != want {
		t.Errorf("Open, %s: %v, %d, not %d", what, s, e, want)
	}
}

// P10.1: the errors, each by its name; of a dead disk that one, whatever else is wrong.
func TestOpenErrors(t *testing.T) {
	written, s, _ := grown(t, 100, 40, 20)
	writes(t, s, many(40, 20)...)
	if len(laidOn(t, written).chain) == 0 {
		t.Fatal("there is no chain")
	}
	noChain := written.Copy()
	turn(t, noChain, laidOn(t, written).chain[0])
	noSuper := written.Copy()
	turn(t, noSuper, 0)
	turn(t, noSuper, 1)
	empty := func(most, pages int) *disk.Disk {
		d := newDisk(t, most)
		be(t, "Grow", d.Grow(pages), api.OK)
		return d
	}
	for _, x := range []struct {
		what string
		d    *disk.Disk
		want api.Errno
	}{
		{"one page at most", empty(1, 0), api.ErrStoreFull},
		{"one page at most, and it is there", empty(1, 1), api.ErrStoreFull},
		{"three pages of noughts", empty(9, 3), api.ErrStoreBad},
		{"many pages of noughts", empty(api.MaxPages, api.MaxPages), api.ErrStoreBad},
		{"a chain that is turned", noChain, api.ErrStoreBad},
		{"supers that are turned", noSuper, api.ErrStoreBad},
		{"a fresh one", empty(9, 0), api.OK},
		{"written", written.Copy(), api.OK},
	} {
		dead := x.d.Copy()
		dead.Fuse(0)
		refusesOpen(t, x.what+", dead", dead, api.ErrStoreDead)
		if x.want != api.OK {
			refusesOpen(t, x.what, x.d, x.want)
		} else {
			opened(t, x.d)
		}
	}
	for n := range 3 { // two writes and a sync
		d := empty(9, 0)
		d.Fuse(n)
		refusesOpen(t, fmt.Sprintf("dead behind %d", n), d, api.ErrStoreDead)
	}
	d := empty(9, 0)
	d.Fuse(3)
	opened(t, d)
}

// P10.2: changes are done in order, and make the next version, also if there are none.
func TestWrite(t *testing.T) {
	for _, x := range []struct {
		what string
		l    []api.Change
	}{
		{"nothing", nil},
		{"an empty list", []api.Change{}},
		{"one key", []api.Change{put("a", "1")}},
		{"a key that is there", []api.Change{put("m", "other")}},
		{"the same again", []api.Change{put("m", "1")}},
		{"no value", []api.Change{put("m", "")}},
		{"no key", []api.Change{put("", "1")}},
		{"several, not in order", []api.Change{put("z", "1"), put("a", "2"), put("n", "3")}},
		{"a key dropped", []api.Change{drop("m")}},
		{"a key that isn't there dropped", []api.Change{drop("a")}},
		{"no key dropped", []api.Change{drop("")}},
		{"all dropped", []api.Change{drop("n"), drop("m")}},
		{"all dropped, and one put", []api.Change{drop("n"), drop("m"), put("a", "1")}},
		{"a key put several times", []api.Change{put("a", "1"), put("a", "2"), put("a", "3")}},
		{"put and dropped", []api.Change{put("a", "1"), drop("a")}},
		{"dropped and put", []api.Change{drop("m"), put("m", "2")}},
		{"dropped twice", []api.Change{drop("m"), drop("m")}},
		{"put, dropped and put", []api.Change{put("a", "1"), drop("a"), put("a", "2"), drop("m")}},
		{"dropped, with a value", []api.Change{{Key: "m", Value: "1", Drop: true}}},
		{"dropped, with a value that is too long", []api.Change{{Key: "m", Value: long("", 101), Drop: true}}},
		{"many", many(300, 30)},
	} {
		for _, first := range []content{{}, {"m": "1", "n": "2"}} {
			_, s := fresh(t, 500)
			if len(first) > 0 {
				writes(t, s, put("m", "1"), put("n", "2"))
			}
			be(t, "Pin", s.Pin(s.Now()), api.OK)
			writes(t, s, x.l...)
			has(t, x.what, s, s.Now(), first.with(x.l...))
			has(t, x.what+", ahead", s, s.Now()-1, first)
			writes(t, s)
			has(t, x.what+", and nothing", s, s.Now(), first.with(x.l...))
		}
	}
}

// P10.2: versions count by one, also behind errors.
func TestNumbers(t *testing.T) {
	d, s := fresh(t, 100)
	for i := range 50 {
		if s.Now() != i+1 {
			t.Fatalf("version %d, not %d", s.Now(), i+1)
		}
		refuses(t, "too long", s, api.ErrStoreLong, put(long("", 101), ""))
		writes(t, s, put("a", fmt.Sprint(i)))
		if i%10 == 0 {
			s = opened(t, d)
		}
	}
}

// P10.2: as long as a key and a value may be.
func TestLong(t *testing.T) {
	_, s := fresh(t, 200)
	var c content
	for _, key := range []int{0, 1, 99, 100, 101, 102, 10000} {
		for _, value := range []int{0, 1, 99, 100, 101, 102, 10000} {
			x := put(long("", key), long(fmt.Sprint(value), value))
			gone := drop(x.Key)
			gone.Value = x.Value
			if key <= 100 {
				writes(t, s, gone)
				c = c.with(gone)
			} else {
				refuses(t, "a drop", s, api.ErrStoreLong, gone)
			}
			if max(key, value) <= 100 {
				writes(t, s, x)
				c = c.with(x)
			} else {
				refuses(t, "too long", s, api.ErrStoreLong, x)
				refuses(t, "too long, first", s, api.ErrStoreLong, x, put("a", "1"))
				refuses(t, "too long, last", s, api.ErrStoreLong, put("a", "1"), drop(""), x)
			}
			has(t, fmt.Sprintf("%d and %d", key, value), s, s.Now(), c)
		}
	}
}

// P10.2, P1: very many changes at once.
func TestVeryMany(t *testing.T) {
	_, s := fresh(t, 200)
	var l []api.Change
	for i := range 30000 {
		x := put(fmt.Sprint(i*7919%150), fmt.Sprint(i))
		x.Drop = i%3 == 0
		l = append(l, x)
	}
	writes(t, s, l...)
	has(t, "very many", s, 2, content{}.with(l...))
	refuses(t, "very many, and one too long", s, api.ErrStoreLong, append(l, drop(long("", 101)))...)
}

// P10.3: Get and Range are chapter 9's, of each version that is there.
func TestRead(t *testing.T) {
	_, s, c := grown(t, 500, 100, 30)
	older := c
	be(t, "Pin", s.Pin(2), api.OK)
	for i := range 30 {
		l := []api.Change{put(fmt.Sprintf("k%03d", i*3), "new"), drop(long(fmt.Sprintf("k%03d", i*2), 30))}
		writes(t, s, l...)
		c = c.with(l...)
	}
	keys := []string{"", "a", "k", "k0", long("k010", 30), long("k011", 30), "k012", "k0125", long("k099", 30), "k099", "l", "~", long("k010", 31), long("k", 100), long("k", 101), long("z", 5000)}
	for _, from := range keys {
		gets(t, "the newest one", s, 32, c, from)
		gets(t, "pinned", s, 2, older, from)
		for _, to := range keys {
			for _, most := range []int{math.MinInt, -1, 0, 1, 2, 20, 99, 100, 101, math.MaxInt} {
				ranges(t, "the newest one", s, 32, c, from, to, most)
				ranges(t, "pinned", s, 2, older, from, to, most)
			}
		}
	}
}

// P10.3, P1: versions that aren't there, whatever else is asked; also of a disk that is dead and turned.
func TestNoVersion(t *testing.T) {
	d, s, _ := grown(t, 100, 40, 30)
	be(t, "Pin", s.Pin(2), api.OK)
	for s.Now() < 8 {
		writes(t, s, put("a", "1"))
		if s.Now() == 5 {
			be(t, "Pin", s.Pin(5), api.OK)
		}
	}
	be(t, "Unpin", s.Unpin(5), api.OK)
	for range 2 {
		for _, v := range []int{math.MinInt, -1 << 32, -2, -1, 0, 1, 3, 4, 5, 6, 7, 9, 10, 1 << 32, 1<<32 + 2, math.MaxInt} {
			for _, key := range []string{"", "a", long("", 100), long("", 101)} {
				refusesRead(t, "not there", s, v, key, api.ErrStoreToken)
			}
			if l, e := s.Range(v, "b", "a", -1); l != nil || e != api.ErrStoreToken {
				t.Errorf("Range of %d: %v, %d", v, l, e)
			}
			gone(t, "not there", s, v)
		}
		for no := range d.Pages() {
			turn(t, d, no)
		}
		d.Fuse(0)
	}
}

// P10.3: a version is there as long as it was pinned more often than let go; the newest one always.
func TestPins(t *testing.T) {
	_, s := fresh(t, 100)
	for range 3 {
		be(t, "Pin(1)", s.Pin(1), api.OK)
	}
	writes(t, s, put("a", "2"))
	be(t, "Pin(2)", s.Pin(2), api.OK)
	be(t, "Unpin(2)", s.Unpin(2), api.OK)
	be(t, "Unpin(2), once more", s.Unpin(2), api.ErrStoreToken)
	gets(t, "the newest one, let go", s, 2, content{"a": "2"}, "a")
	be(t, "Pin(2)", s.Pin(2), api.OK)
	writes(t, s, put("a", "3"))
	writes(t, s, put("a", "4"))
	gone(t, "never pinned", s, 3)
	be(t, "Pin(2), which isn't the newest one", s.Pin(2), api.OK)
	be(t, "Pin(1)", s.Pin(1), api.OK)
	for i := range 4 {
		has(t, "pinned", s, 1, nil)
		be(t, fmt.Sprintf("Unpin(1), time %d", i), s.Unpin(1), api.OK)
	}
	gone(t, "let go", s, 1)
	has(t, "another one was let go", s, 2, content{"a": "2"})
	be(t, "Unpin(2)", s.Unpin(2), api.OK)
	has(t, "once let go", s, 2, content{"a": "2"})
	be(t, "Unpin(2)", s.Unpin(2), api.OK)
	gone(t, "let go", s, 2)
	has(t, "nothing is pinned", s, 4, content{"a": "4"})
	be(t, "Unpin(4)", s.Unpin(4), api.ErrStoreToken)
}

// P10.3: several versions, let go in any order: those that are left stay, and what was let go is used again.
func TestPinsInAnyOrder(t *testing.T) {
	for _, order := range [][]int{{2, 3, 4, 5, 6}, {6, 5, 4, 3, 2}, {4, 2, 6, 3, 5}, {3, 6, 2, 5, 4}} {
		_, s := fresh(t, 4000)
		told := map[int]content{}
		var c content
		for i := range 5 {
			l := append(many(20+i, 30), put("a", fmt.Sprint(i)), drop(long(fmt.Sprintf("k%03d", i), 30)))
			writes(t, s, l...)
			c = c.with(l...)
			told[s.Now()] = c
			be(t, "Pin", s.Pin(s.Now()), api.OK)
		}
		for i, v := range order {
			for j := range 10 {
				l := []api.Change{put("b", fmt.Sprint(i, j)), put(long("k007", 30), fmt.Sprint(j))}
				writes(t, s, l...)
				c = c.with(l...)
			}
			be(t, "Unpin", s.Unpin(v), api.OK)
			delete(told, v)
			gone(t, "let go", s, v)
			has(t, "the newest one", s, s.Now(), c)
			for v, c := range told {
				has(t, "pinned", s, v, c)
			}
		}
		scrubs(t, "at last", s)
	}
}

// P10.2, P10.3: what is handed in may be changed then, and isn't changed; what is handed out, too.
func TestMemory(t *testing.T) {
	d, s := fresh(t, 100)
	all := []api.Change{put("a", "1"), put("b", "2"), drop("c"), put("spare", "room")}
	l := all[:3]
	writes(t, s, l...)
	if !slices.Equal(all, []api.Change{put("a", "1"), put("b", "2"), drop("c"), put("spare", "room")}) {
		t.Fatalf("Write changed %v", all)
	}
	for i := range all {
		all[i] = put("x", "y")
	}
	c := content{"a": "1", "b": "2"}
	has(t, "what was handed in is changed", s, 2, c)
	be(t, "Pin", s.Pin(2), api.OK)
	for range 2 {
		r, e := s.Range(2, "", "", lot)
		be(t, "Range", e, api.OK)
		r[0], r[1] = [2]string{"x", "y"}, [2]string{}
		_ = append(r[:1], [2]string{"z", "z"})
		has(t, "what was handed out is changed", s, 2, c)
		writes(t, s, put("d", "3"))
	}
	turn(t, d, laidOn(t, d).tree[0])
	x, y := s.Scrub(), s.Scrub()
	if len(x) == 0 || !slices.Equal(x, y) {
		t.Fatalf("Scrub: %v, %v", x, y)
	}
	x[0] = -1
	scrubs(t, "what was handed out is changed", s, y...)
}

// P10.2, P10.3: keys and values of any bytes.
func TestOddTexts(t *testing.T) {
	_, s := fresh(t, 300)
	var l []api.Change
	for _, key := range []string{"", "\x00", "\x00\x00", "\xff", "\xff\xff", "a\x00b", strings.Repeat("\xff", 100), strings.Repeat("\x00", 100), "\xc3\x28", "ä"} {
		l = append(l, put(key, key))
	}
	writes(t, s, l...)
	c := content{}.with(l...)
	has(t, "odd texts", s, 2, c)
	for key := range c {
		ranges(t, "odd texts", s, 2, c, key, "", lot)
		ranges(t, "odd texts", s, 2, c, "", key, lot)
	}
}
