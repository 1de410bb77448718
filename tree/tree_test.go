package tree

import (
	"fmt"
	"math"
	"slices"
	"strings"
	"testing"

	"lunette/api"
)

// P9.1: the chapter's example.
func TestExample(t *testing.T) {
	_, p := fresh(t, 20)
	root := 0
	for _, key := range []string{"a", "b", "c"} {
		root = puts(t, p, root, key, "of "+key)
	}
	if pages, e := Pages(p, root); len(pages) != 1 || e != api.OK {
		t.Errorf("Pages: %v, %d", pages, e)
	}
	if l, e := Range(p, root, "b", "", lot); e != api.OK || !slices.Equal(l, pairs("b", "of b", "c", "of c")) {
		t.Errorf("Range: %v, %d", l, e)
	}
	answers(t, "a, b, c", p, root, pairs("a", "of a", "b", "of b", "c", "of c"))
}

// P9.1, P9.2: the empty tree has nothing, and no pages.
func TestEmptyTree(t *testing.T) {
	d, p := fresh(t, 20)
	d.Fuse(0) // nothing is written
	answers(t, "the empty tree", p, 0, nil)
	for _, key := range []string{"", "a", long("a", 100), long("a", 101), long("a", 70000)} {
		gets(t, "the empty tree", p, 0, nil, key)
		dropsNone(t, p, 0, key)
		for _, most := range []int{math.MinInt, -1, 0, 1, math.MaxInt} {
			ranges(t, "the empty tree", p, 0, nil, key, "", most)
			ranges(t, "the empty tree", p, 0, nil, "", key, most)
		}
	}
	tells(t, "behind it", p, state{super: api.Super{Epoch: 1, Pages: 2}, pages: 2})
}

// P9.1: keys and values of all lengths that may be, alone and all together; a byte more is too long, wherever the root is.
func TestLengths(t *testing.T) {
	lengths := []int{0, 1, 2, 98, 99, 100}
	_, all := fresh(t, 200)
	root, l := 0, plain(nil)
	for _, k := range lengths {
		for _, v := range lengths {
			key, value := strings.Repeat("k", k), strings.Repeat("v", v)
			_, p := fresh(t, 20)
			one := puts(t, p, 0, key, value)
			answers(t, fmt.Sprintf("a key of %d, a value of %d", k, v), p, one, plain{{key, value}})
			root, l = puts(t, all, root, key, value), l.put(key, value)
			answers(t, "all of them", all, root, l)
		}
	}
	was := stateOf(all)
	for _, x := range [][2]int{{101, 0}, {0, 101}, {100, 101}, {101, 100}, {101, 101}, {256, 0}, {0, 256}, {357, 1}, {1, 357}, {70000, 70000}} {
		key, value := strings.Repeat("k", x[0]), strings.Repeat("v", x[1])
		for _, r := range []int{root, 0, -1, 1, 199, 5000} {
			if got, e := Put(all, r, key, value); got != 0 || e != api.ErrTreeLong {
				t.Errorf("Put below %d of %v: %d, %d", r, x, got, e)
			}
		}
		if x[0] > 100 { // such a key isn't there, which is no error
			gets(t, "too long", all, root, l, key)
			dropsNone(t, all, root, key)
			ranges(t, "too long", all, root, l, key, "", lot)
			ranges(t, "too long", all, root, l, "", key, lot)
		}
	}
	tells(t, "behind it", all, was)
	answers(t, "behind it", all, root, l)
}

// P9.1: what is compared is bytes, and a key may begin with another one.
func TestOrder(t *testing.T) {
	_, p := fresh(t, 100)
	root, l := 0, plain(nil)
	for _, key := range []string{"b", "a\x00", "\xff", "", "a", "\x00", "aa", "\x80", "a\xff", "\x7f", "\x00\x00", "ä", "B", long("a", 100), long("a", 99), "\xff\xff"} {
		root, l = puts(t, p, root, key, key), l.put(key, key)
		answers(t, "with "+short(key), p, root, l)
	}
	for _, from := range l {
		for _, to := range l {
			ranges(t, "order", p, root, l, from[0], to[0], lot)
		}
	}
}

// P9.1: a key that is there gets another value: shorter, longer, and the same.
func TestPutAgain(t *testing.T) {
	for _, keys := range []int{1, 2, 5, 40} {
		_, p := fresh(t, 400)
		root, l := grown(t, p, keys, 20)
		for round, size := range []int{0, 100, 100, 1, 50, 0, 99} {
			for i, kv := range slices.Clone(l) {
				if round%2 == 1 && i%3 == 0 {
					commits(t, p, root)
				}
				value := strings.Repeat("w", size)
				root, l = puts(t, p, root, kv[0], value), l.put(kv[0], value)
				covers(t, "another value", p, answers(t, "another value", p, root, l).pages)
			}
		}
		if len(l) != keys {
			t.Errorf("%d keys, not %d", len(l), keys)
		}
	}
}

// P9.1, P9.2: keys that rise, fall, or come in any order, till the tree is several levels deep, and dropped again, in each of these orders.
func TestGrowAndShrink(t *testing.T) {
	const keys = 60
	orders := []func(i int) int{
		func(i int) int { return i },
		func(i int) int { return keys - 1 - i },
		func(i int) int { return i * 37 % keys },
		func(i int) int { return (i%2)*(keys-1) + i/2*(1-i%2*2) }, // from both ends
	}
	for _, size := range []int{3, 60, 100} {
		deepest := 0
		for a, up := range orders {
			for b, down := range orders {
				_, p := fresh(t, 400)
				root, l := 0, plain(nil)
				for i := range keys {
					key, value := long(fmt.Sprintf("%03d", up(i)), size), long("v", size)
					root, l = puts(t, p, root, key, value), l.put(key, value)
					seen := answers(t, "growing", p, root, l)
					covers(t, "growing", p, seen.pages)
					deepest = max(deepest, seen.depth)
				}
				for i := range keys {
					key := long(fmt.Sprintf("%03d", down(i)), size)
					root, l = drops(t, p, root, key), l.drop(key)
					covers(t, "shrinking", p, answers(t, "shrinking", p, root, l).pages)
					dropsNone(t, p, root, key)
				}
				if root != 0 || len(l) != 0 {
					t.Fatalf("orders %d, %d: root %d, %d keys", a, b, root, len(l))
				}
			}
		}
		if want := map[int]int{3: 2, 60: 4, 100: 5}[size]; deepest < want {
			t.Errorf("keys of %d bytes: %d pages deep, not %d", size, deepest, want)
		}
	}
}

// P9.1: a leaf whose halves, by number, may not fit: small keys, and two great ones in any places between them, in either order.
func TestUnevenLeaves(t *testing.T) {
	for small := range 10 {
		for first := range small + 1 {
			for second := range small + 1 {
				_, p := fresh(t, 50)
				root, l := 0, plain(nil)
				for i := range small {
					key := string([]byte{byte('b' + 2*i)})
					root, l = puts(t, p, root, key, ""), l.put(key, "")
				}
				for i, at := range []int{first, second} {
					key, value := long(fmt.Sprintf("%c%d", 'a'+2*at, i), 100), long("v", 100)
					root, l = puts(t, p, root, key, value), l.put(key, value)
					covers(t, "uneven", p, answers(t, "uneven", p, root, l).pages)
				}
			}
		}
	}
}

// P9.1: what comes between two great keys may take three leaves; the branch above them, and a root above that, if it was full.
func TestSplitInThree(t *testing.T) {
	value := long("v", 57)
	for branches := range 2 {
		for at := range 3 {
			_, p := fresh(t, 50)
			var kids []int
			var l plain
			for i := range 3 {
				a, c := long(fmt.Sprintf("%da", i), 58), long(fmt.Sprintf("%dc", i), 58)
				kids = append(kids, leaf(t, p, a, value, c, value)) // it is full: two cells of 118 bytes
				l = l.put(a, value).put(c, value)
			}
			root := branch(t, p, kids[0], long("0d", 100), kids[1], long("1d", 100), kids[2])
			want := 3
			if branches == 0 {
				root, l, want = kids[at], l[2*at:2*at+2], 2
			}
			answers(t, "by hand", p, root, l)
			key := long(fmt.Sprintf("%db", at), 100)
			root, l = puts(t, p, root, key, long("v", 100)), l.put(key, long("v", 100))
			if seen := answers(t, "split", p, root, l); seen.depth != want || len(seen.spread) != 2*want-1 {
				t.Errorf("%d: %d pages deep, leaves of %v keys", at, seen.depth, seen.spread)
			}
		}
	}
}

// P9.1: a leaf has as much as fits onto a page, and not a byte more.
func TestFullLeaf(t *testing.T) {
	for more := range 2 {
		_, p := fresh(t, 50)
		root, l := 0, plain(nil)
		for i, size := range []int{57, 57 + more} { // 2 bytes of the page, 1 of the cell, 58 of the key, and these
			key, value := long(fmt.Sprint(i), 58), long("v", size)
			root, l = puts(t, p, root, key, value), l.put(key, value)
		}
		if seen := answers(t, "a full leaf", p, root, l); seen.depth != 1+more {
			t.Errorf("%d bytes: %d pages deep", api.PageRoom+more, seen.depth)
		}
	}
}

// A leaf that takes less than it did goes onto one page with the one ahead of it, or behind it, if both fit; else those beside it stay.
func TestBeside(t *testing.T) {
	for at := range 2 {
		_, p := fresh(t, 50)
		kids := []int{leaf(t, p, "a", "same"), leaf(t, p, "m", "same")}
		root, l := branch(t, p, kids[0], "m", kids[1]), plain(pairs("a", "same", "m", "same"))
		key := l[at][0]
		for _, value := range []string{"same", "longer"} {
			root, l = puts(t, p, root, key, value), l.put(key, value)
			if seen := answers(t, value, p, root, l); !slices.Equal(seen.pages[1:], kids) {
				t.Errorf("leaf %d, %s: pages %v", at, value, seen.pages)
			}
		}
		if other := drops(t, p, root, key); other != kids[1-at] {
			t.Errorf("leaf %d dropped: root %d, not the leaf %d", at, other, kids[1-at])
		}
		p.Abort()
		root = branch(t, p, leaf(t, p, "a", "same"), "m", leaf(t, p, "m", "same"))
		root, l = puts(t, p, root, key, "les"), l.put(key, "les").put(l[1-at][0], "same")
		if seen := answers(t, "less", p, root, l); len(seen.pages) != 1 {
			t.Errorf("leaf %d, less: pages %v", at, seen.pages)
		}
	}
	for full := range 3 { // the one between goes with the one that isn't full, and else stays
		_, p := fresh(t, 50)
		value := long("v", 100)
		kids := []int{leaf(t, p, "a", value, "b", value), leaf(t, p, "m", value, "n", "1"), leaf(t, p, "x", value, "y", value)}
		if full < 2 {
			kids[2-2*full] = leaf(t, p, []string{"x", "a"}[full], "1")
		}
		root := branch(t, p, kids[0], "m", kids[1], "x", kids[2])
		root = drops(t, p, root, "n")
		if seen := looked(t, p, root); !slices.Equal(seen.spread, [][]int{{2, 2}, {2, 2}, {2, 1, 2}}[full]) {
			t.Errorf("%d: leaves of %v keys", full, seen.spread)
		}
	}
}

// P9.1: Drop of keys till a leaf runs empty, a branch has one child, and nothing is left; of a tree by hand, each leaf of which has one key.
func TestDropTillNothing(t *testing.T) {
	for _, order := range [][]int{{0, 1, 2, 3}, {3, 2, 1, 0}, {1, 0, 3, 2}, {2, 3, 0, 1}, {0, 2, 1, 3}, {3, 1, 2, 0}, {1, 2, 3, 0}} {
		for _, value := range []string{"", long("v", 100)} { // leaves that fit onto one page, and leaves that don't
			for _, told := range []bool{false, true} {
				_, p := fresh(t, 50)
				keys := []string{long("a", 100), long("b", 100), long("c", 100), long("d", 100)}
				var kids []int
				var l plain
				for _, key := range keys {
					kids, l = append(kids, leaf(t, p, key, value)), l.put(key, value)
				}
				a, b := branch(t, p, kids[0], keys[1], kids[1]), branch(t, p, kids[2], keys[3], kids[3])
				root := branch(t, p, a, keys[2], b)
				for _, i := range order {
					if told {
						commits(t, p, root)
					}
					answers(t, "ahead", p, root, l)
					root, l = drops(t, p, root, keys[i]), l.drop(keys[i])
					covers(t, "dropped", p, answers(t, "dropped", p, root, l).pages)
				}
				if root != 0 {
					t.Errorf("root %d", root)
				}
			}
		}
	}
}

// P9.1: Drop of keys that aren't there, ahead of, between and behind those that are, and begun by them: nothing is changed, or written.
func TestDropOfNone(t *testing.T) {
	for _, keys := range []int{1, 4, 100} {
		d, p := fresh(t, 400)
		root, l := grown(t, p, keys, 20)
		d.Fuse(0)
		was := stateOf(p)
		for _, kv := range l {
			for _, key := range []string{"", kv[0][:3], kv[0][:19], kv[0] + "\x00", kv[0] + "~", kv[0][:2] + "x"} {
				dropsNone(t, p, root, key)
			}
		}
		tells(t, "behind it", p, was)
		answers(t, "behind it", p, root, l)
	}
}

// P9.1: Range from and to keys that are there, and that aren't, in either order, with any number of keys.
func TestRange(t *testing.T) {
	for _, x := range [][2]int{{1, 3}, {7, 3}, {30, 3}, {60, 40}, {40, 100}} {
		_, p := fresh(t, 400)
		root, l := grown(t, p, x[0], x[1])
		ends := []string{"", "\x00", "zzz", long("z", 101)}
		for i := 0; i < len(l); i += 1 + len(l)/12 {
			key := l[i][0]
			ends = append(ends, key, key[:2], key+"\x00", key[:len(key)-1]+"}")
		}
		for _, from := range ends {
			for _, to := range ends {
				all := len(l.stretch(from, to, lot))
				for _, most := range []int{math.MinInt, -1, 0, 1, 2, all - 1, all, all + 1, math.MaxInt} {
					ranges(t, fmt.Sprintf("%d keys", len(l)), p, root, l, from, to, most)
				}
			}
		}
	}
}

// P9.2: Check tells how many pages there are down to a leaf, of trees by hand: a root without keys, and branches of one child below the root.
func TestCheckByHand(t *testing.T) {
	_, p := fresh(t, 100)
	none := leaf(t, p)
	a, b := leaf(t, p, "a", "1"), leaf(t, p, "m", "2", "n", "3")
	flat := branch(t, p, a, "m", b)
	high := branch(t, p, branch(t, p, branch(t, p, a)), "b", branch(t, p, branch(t, p, b)))
	for _, x := range []struct {
		what  string
		root  int
		depth int
		list  plain
	}{
		{"a leaf without keys", none, 1, nil},
		{"a leaf", b, 1, pairs("m", "2", "n", "3")},
		{"two leaves", flat, 2, pairs("a", "1", "m", "2", "n", "3")},
		{"branches without keys", high, 4, pairs("a", "1", "m", "2", "n", "3")},
	} {
		if seen := answers(t, x.what, p, x.root, x.list); seen.depth != x.depth {
			t.Errorf("%s: %d pages deep", x.what, seen.depth)
		}
	}
	if l, e := Pages(p, high); e != api.OK || len(l) != 7 || l[0] != high || l[3] != a || l[6] != b {
		t.Errorf("Pages: %v, %d", l, e)
	}
	one := branch(t, p, branch(t, p, leaf(t, p, "a", "1")), "m", branch(t, p, leaf(t, p, "m", "2"), "n", leaf(t, p, "n", "3")))
	one = drops(t, p, one, "a") // and what is left is a root, which has keys
	if seen := answers(t, "a branch with a key", p, one, pairs("m", "2", "n", "3")); seen.depth != 2 {
		t.Errorf("%d pages deep", seen.depth)
	}
	// They can be put to, and dropped from.
	none = puts(t, p, none, "k", "v")
	answers(t, "a leaf that had no keys", p, none, pairs("k", "v"))
	high = puts(t, p, high, "c", "4")
	answers(t, "branches without keys", p, high, pairs("a", "1", "c", "4", "m", "2", "n", "3"))
	for _, key := range []string{"c", "a", "n"} {
		high = drops(t, p, high, key)
	}
	answers(t, "branches without keys", p, high, pairs("m", "2"))
	if high = drops(t, p, high, "m"); high != 0 {
		t.Errorf("root %d", high)
	}
}

// P9.3: a tree may be 40 pages deep for Pages and Check; the others don't ask, and what is dropped from it lets it be less deep.
func TestDeep(t *testing.T) {
	for _, depth := range []int{38, 39, 40, 41, 42, 300} {
		_, p := fresh(t, 1000)
		a, b := leaf(t, p, "a", "1", "aa", "2"), leaf(t, p, "b", "3")
		for range depth - 2 {
			a, b = branch(t, p, a), branch(t, p, b)
		}
		root, l := branch(t, p, a, "b", b), plain(pairs("a", "1", "aa", "2", "b", "3"))
		what := fmt.Sprintf("%d pages deep", depth)
		if depth <= 40 {
			if seen := answers(t, what, p, root, l); seen.depth != depth {
				t.Errorf("%s: %d", what, seen.depth)
			}
		} else {
			refusesAll(t, what, p, root, api.ErrTreeForm)
		}
		ranges(t, what, p, root, l, "", "", lot)
		gets(t, what, p, root, l, "aa")
		gets(t, what, p, root, l, "c")
		dropsNone(t, p, root, "c")
		root = puts(t, p, root, "c", "4")
		ranges(t, what, p, root, l.put("c", "4"), "", "", lot)
		for _, key := range []string{"b", "c"} { // then the root has one child, and so have those below it
			root = drops(t, p, root, key)
		}
		answers(t, what, p, root, pairs("a", "1", "aa", "2"))
	}
}

// A tree from which most was dropped takes few pages: what fits onto one page with a neighbour goes there.
func TestDropsJoin(t *testing.T) {
	for _, step := range []int{1, 7, 53} {
		_, p := fresh(t, 400)
		root, l := grown(t, p, 200, 20)
		before := len(looked(t, p, root).pages)
		for i := range 200 {
			if i = i * step % 200; i%10 > 0 {
				key := long(fmt.Sprintf("%03d", i), 20)
				root, l = drops(t, p, root, key), l.drop(key)
			}
		}
		if seen := answers(t, "joined", p, root, l); len(l) != 20 || len(seen.pages) > before/5 {
			t.Errorf("%d keys take %d pages of %d", len(l), len(seen.pages), before)
		}
	}
}
