package tree

import (
	"fmt"
	"math/rand"
	"slices"
	"strings"
	"testing"

	"lunette/api"
	"lunette/disk"
	"lunette/pager"
)

// version is a root that was told, and what it has.
type version struct {
	root, epoch int
	list        plain
}

// twin is a tree and a plain list, to which the same is done, and versions of both that were told.
type twin struct {
	t     *testing.T
	r     *rand.Rand
	d     *disk.Disk
	p     *pager.Pager
	root  int
	list  plain
	told  []version      // the last one is what was told last
	bytes map[int]string // what stood on the pages of these when they were told
	long  int            // of ten keys, how many are as long as they may be
}

// newTwin is a tree without anything on a disk that had nothing.
func newTwin(t *testing.T, seed, most int) *twin {
	d, p := fresh(t, most)
	x := &twin{t: t, r: rand.New(rand.NewSource(int64(seed))), d: d, p: p, long: seed % 10}
	x.tell()
	return x
}

// key is a key of any length that may be, or one more: short ones, and such as begin with one another, come again and again.
func (x *twin) key() string {
	if len(x.list) > 0 && x.r.Intn(3) == 0 {
		return x.list[x.r.Intn(len(x.list))][0]
	}
	key := strings.Repeat(string(rune('a'+x.r.Intn(2))), x.r.Intn(4))
	if x.r.Intn(3) > 0 {
		key += fmt.Sprint(x.r.Intn(200))
	}
	if x.r.Intn(10) < x.long {
		key = long(key, 99+x.r.Intn(40)/19) // seldom one too many
	}
	return key
}

// act does one act to both.
func (x *twin) act(shrinks bool) string {
	key := x.key()
	if act := x.r.Intn(40); act == 0 {
		return x.commit()
	} else if act == 1 && x.r.Intn(4) == 0 {
		x.p.Abort()
		x.begin()
		return "Abort"
	} else if (act < 14) != shrinks {
		root, has, e := Drop(x.p, x.root, key)
		be(x.t, "Drop of "+short(key), e, api.OK)
		if _, want := x.list.get(key); has != want || !has && root != x.root {
			x.t.Fatalf("Drop of %s: %d, %v, of %d", short(key), root, has, x.root)
		}
		x.root, x.list = root, x.list.drop(key)
		return "Drop of " + short(key)
	}
	value := strings.Repeat("v", []int{0, 1, 2, 99, 100, 101}[x.r.Intn(6)])
	root, e := Put(x.p, x.root, key, value)
	if max(len(key), len(value)) > 100 {
		if root != 0 || e != api.ErrTreeLong {
			x.t.Fatalf("Put of %s: %d, %d", short(key), root, e)
		}
		return "Put of too much"
	}
	be(x.t, "Put of "+short(key), e, api.OK)
	x.root, x.list = root, x.list.put(key, value)
	return "Put of " + short(key)
}

// commit tells what there is; now and then nobody reads what was told ahead any more.
func (x *twin) commit() string {
	commits(x.t, x.p, x.root)
	x.tell()
	if x.r.Intn(3) == 0 {
		x.told = x.told[len(x.told)-1-x.r.Intn(min(len(x.told), 3)):]
	}
	x.p.Oldest(x.told[0].epoch)
	x.begin()
	return "Commit"
}

// tell keeps what was told.
func (x *twin) tell() {
	x.told = append(x.told, version{root: x.root, epoch: x.p.Super().Epoch, list: x.list})
	x.begin()
}

// begin begins with what was told last: its pages, and all that older versions need, are to stay as they are.
func (x *twin) begin() {
	last := x.told[len(x.told)-1]
	x.root, x.list, x.bytes = last.root, last.list, map[int]string{}
	for _, v := range x.told {
		pages := looked(x.t, x.p, v.root).pages
		for i, b := range bytesOf(x.t, x.d, pages) {
			x.bytes[pages[i]] = b
		}
	}
}

// holds holds all that both tell against each other.
func (x *twin) holds(what string) {
	x.t.Helper()
	seen := answers(x.t, what, x.p, x.root, x.list)
	covers(x.t, what, x.p, seen.pages)
	key, other := x.key(), x.key()
	gets(x.t, what, x.p, x.root, x.list, key)
	ranges(x.t, what, x.p, x.root, x.list, key, other, x.r.Intn(20))
	ranges(x.t, what, x.p, x.root, x.list, key, "", x.r.Intn(20))
	for no, b := range x.bytes {
		if bytesOf(x.t, x.d, []int{no})[0] != b {
			x.t.Fatalf("%s: page %d was told, and is another one", what, no)
		}
	}
	v := x.told[x.r.Intn(len(x.told))]
	answers(x.t, what+", an older root", x.p, v.root, v.list)
	gets(x.t, what+", an older root", x.p, v.root, v.list, key)
	ranges(x.t, what+", an older root", x.p, v.root, v.list, key, other, lot)
}

// P9.1, P9.2, P9.4: whatever is done, in whichever order, it is as with a plain list; what was told stays, and is answered as it was as long as somebody reads it.
func TestAsAList(t *testing.T) {
	deepest := 0
	for seed := range 60 {
		x := newTwin(t, seed, 4000)
		for i := range 150 {
			what := x.act(i > 90)
			x.holds(fmt.Sprintf("seed %d, act %d, %s", seed, i, what))
		}
		deepest = max(deepest, looked(t, x.p, x.root).depth)
		for len(x.list) > 0 {
			key := x.list[x.r.Intn(len(x.list))][0]
			x.root, x.list = drops(t, x.p, x.root, key), x.list.drop(key)
			x.holds(fmt.Sprintf("seed %d, Drop of %s", seed, short(key)))
		}
		if x.root != 0 {
			t.Fatalf("seed %d: root %d", seed, x.root)
		}
	}
	if deepest < 4 {
		t.Errorf("none was deeper than %d pages", deepest)
	}
}

// P9.2: what Put and Drop change behind a Commit is new pages, at most one for each on the way from the root to a leaf, where nothing is split; the others of the tree are those that were told.
func TestNewPages(t *testing.T) {
	for _, keys := range []int{1, 3, 20, 100} {
		d, p := fresh(t, 1000)
		root, l := grown(t, p, keys, 30)
		commits(t, p, root)
		told := looked(t, p, root)
		was := bytesOf(t, d, told.pages)
		for i, kv := range l {
			now, list := 0, plain(nil)
			if i%2 == 0 {
				now, list = puts(t, p, root, kv[0], "other"), l.put(kv[0], "other")
			} else {
				now, list = drops(t, p, root, kv[0]), l.drop(kv[0])
			}
			seen := answers(t, "changed", p, now, list)
			covers(t, "changed", p, seen.pages)
			news := slices.DeleteFunc(seen.pages, func(no int) bool { return slices.Contains(told.pages, no) })
			if now == root || len(news) > told.depth {
				t.Errorf("%d keys, %d: root %d, then %d; new pages %v", keys, i, root, now, news)
			}
			if !slices.Equal(bytesOf(t, d, told.pages), was) {
				t.Fatalf("%d keys, %d: what was told is changed", keys, i)
			}
			answers(t, "as told", p, root, l)
			p.Abort()
		}
	}
}

// P9.2: between two Commits, pages that are new are written anew: none is taken, or let go, and the root stays.
func TestNewAgain(t *testing.T) {
	d, p := fresh(t, 1000)
	root, l := grown(t, p, 100, 30)
	was, loose := stateOf(p), d.Loose()
	for i, kv := range l {
		if now := puts(t, p, root, kv[0], long("w", 30)); now != root {
			t.Fatalf("Put of %s: root %d, not %d", short(kv[0]), now, root)
		}
		l = l.put(kv[0], long("w", 30))
		if d.Loose() != loose+i+1 {
			t.Fatalf("Put of %s: %d writes in all", short(kv[0]), d.Loose()-loose)
		}
	}
	tells(t, "behind it", p, was)
	answers(t, "behind it", p, root, l)
}

// P9.4: older roots, told one behind the other, are as they were, as long as somebody reads them; behind that their pages are taken.
func TestOlderRoots(t *testing.T) {
	_, p := fresh(t, 1000)
	told := []version{{epoch: 1}}
	root, l := 0, plain(nil)
	for i := range 60 {
		key := long(fmt.Sprintf("%02d", i*7%20), 40)
		if i%20 < 14 {
			root, l = puts(t, p, root, key, fmt.Sprint(i)), l.put(key, fmt.Sprint(i))
		} else if _, ok := l.get(key); ok {
			root, l = drops(t, p, root, key), l.drop(key)
		}
		commits(t, p, root)
		told = append(told, version{root: root, epoch: p.Super().Epoch, list: l})
		p.Oldest(1)
		for _, v := range told {
			answers(t, fmt.Sprintf("epoch %d, %d later", v.epoch, i), p, v.root, v.list)
		}
	}
	many := p.Pages()
	p.Oldest(p.Super().Epoch) // nobody reads them any more
	for i := range 60 {
		root = puts(t, p, root, "key", fmt.Sprint(i))
		l = l.put("key", fmt.Sprint(i))
		commits(t, p, root)
	}
	if p.Pages() != many {
		t.Errorf("%d pages, then %d", many, p.Pages())
	}
	answers(t, "at last", p, root, l)
}

// P9.2, P9.4: below an older root, whose pages are free, nothing can be put or dropped: it is read alone.
func TestChangeOfOlderRoot(t *testing.T) {
	for _, keys := range []int{1, 20, 60} {
		_, p := fresh(t, 1000)
		old, l := grown(t, p, keys, 40)
		commits(t, p, old)
		root := old
		for _, kv := range l {
			root = puts(t, p, root, kv[0], "other")
		}
		for range 2 {
			for _, kv := range l {
				refusesPut(t, "an older root", p, old, kv[0], api.ErrPagerPage)
				refusesDrop(t, "an older root", p, old, kv[0], api.ErrPagerPage)
			}
			refusesPut(t, "an older root", p, old, "new", api.ErrPagerPage)
			dropsNone(t, p, old, "new")
			answers(t, "an older root", p, old, l)
			commits(t, p, root)
			p.Oldest(2)
		}
	}
}
