package expand

import (
	"slices"
	"strconv"
	"strings"
	"testing"

	"lunette/api"
)

// Users of trees written out by hand.
var flats = []struct{ tree, want string }{
	{"none", ""},
	{"or", ""},
	{"and", ""},
	{"but", ""},
	{"", ""},
	{"or[user:x]", "user:x"},
	{"or[user:y user:x user:y user:z user:x]", "user:x user:y user:z"},
	{"or[group:g#member user:x](or[user:y])", "group:g#member user:x user:y"},
	{"or[user:x](none or(or[user:y] or[user:x]) or)", "user:x user:y"},
	{"or(or[user:a] or[user:b] or[user:c] or[user:d] or[user:e user:f user:g])", "user:a user:b user:c user:d user:e user:f user:g"},
	// What stands in order by its parts: kind, name, relation; fewer bytes first.
	{"or[b:a a:b#r a:b- a:b#q a:b a:b.#r ab:a a:bb a:b0 a:b_]", "a:b a:b#q a:b#r a:b- a:b.#r a:b0 a:b_ a:bb ab:a b:a"},
	// Of and those that all of its Parts have, whatever its Users are.
	{"and[user:x]", ""},
	{"and(or[user:x])", "user:x"},
	{"and[user:y](or[user:x])", "user:x"},
	{"and(or[user:x user:y] or[user:y user:z])", "user:y"},
	{"and(or[user:y] or[user:x user:y user:z])", "user:y"},
	{"and(or[user:x user:y user:z] or[user:y])", "user:y"},
	{"and(or[user:x user:y user:z] or[user:z user:y] or[user:x user:z])", "user:z"},
	{"and(or[user:z user:y] or[user:x user:y user:z] or[user:x user:z])", "user:z"},
	{"and(or[user:x user:z] or[user:z user:y] or[user:x user:y user:z])", "user:z"},
	{"and(or[user:x user:y] or[user:y user:z] or[user:z user:x])", ""},
	{"and(or[user:x] none)", ""},
	{"and(none or[user:x])", ""},
	{"and(or[user:x user:y] or[user:y user:x] or[user:y user:x])", "user:x user:y"},
	{"and(and(or[user:x user:y]) or(or[user:x] or[user:y user:z]))", "user:x user:y"},
	// Of but those of the first one that the second one hasn't, whatever its Users are.
	{"but[user:x](or or)", ""},
	{"but[user:x](or[user:x] or[user:y])", "user:x"},
	{"but[user:y](or[user:x] or)", "user:x"},
	{"but(or[user:x user:y] or[user:y])", "user:x"},
	{"but(or[user:x user:y] or[user:y user:z user:u])", "user:x"},
	{"but(or[user:x user:y] or[user:y user:x])", ""},
	{"but(or[user:x user:y] or[user:z user:u])", "user:x user:y"},
	{"but(or[user:x] none)", "user:x"},
	{"but(none or[user:x])", ""},
	{"but(none none)", ""},
	{"but(but(or[user:x user:y user:z] or[user:y]) but(or[user:z] or[user:z user:u]))", "user:x user:z"},
	{"but(or[user:x#r user:x user:xx] or[user:x])", "user:x#r user:xx"},
	// But without two Parts is nobody.
	{"but(or[user:x])", ""},
	{"but[user:x](or[user:x])", ""},
	{"but(or[user:x] or[user:y] or[user:z])", ""},
	{"but(or[user:x] none none)", ""},
	// Other Ops are nobody, whatever they have.
	{"none[user:x]", ""},
	{"none[user:x](or[user:x] or[user:y])", ""},
	{"this[user:x]", ""},
	{"rel[user:x](or[user:x])", ""},
	{"from(or[user:x])", ""},
	{"[user:x](or[user:x])", ""},
	{"Or[user:x](or[user:x])", ""},
	{"or-[user:x]", ""},
	{"o[user:x]", ""},
	{"or(none[user:x] this[user:y] or[user:z])", "user:z"},
	{"and(or[user:x] none[user:x])", ""},
	{"but(or[user:x user:y] this[user:x])", "user:x user:y"},
	// All together, deeper.
	{"or(and(or[user:x user:y] but(or[user:x user:y user:z] or[user:x])) but(or[user:u] and(or[user:u])) and)", "user:y"},
	{"but(or(or[user:a] or[user:b](or[user:c])) or(and(or[user:a user:c] or[user:c]) none))", "user:a user:b"},
}

// P15.2: the users of trees written out by hand; the trees stay as they were.
func TestFlat(t *testing.T) {
	for _, x := range flats {
		at := tree(t, x.tree)
		got := Flat(at)
		if want := users(t, x.want); !slices.Equal(got, want) || len(want) == 0 && got != nil {
			t.Errorf("Flat(%s) is %s, not %s", x.tree, usersText(got), x.want)
		}
		if !slices.Equal(Flat(at), got) || treeText(at) != x.tree {
			t.Errorf("%s was changed into %s", x.tree, treeText(at))
		}
		if n, want := Size(at), wantSize(at); n != want {
			t.Errorf("Size(%s) is %d, not %d", x.tree, n, want)
		}
	}
}

// P15.2: users that may not be, too, each once, in order of their parts.
func TestFlatOfOddUsers(t *testing.T) {
	odd := []string{"", "\x00", "\x00\x00", "\x00\x01", "\x00a", "\x01", "#", "a", "a\x00", "a\x00\x00", "a\x00\xff", "a\x01", "aa", "\x7f", "\x80", "é", "\xff", "\xff\x00", "\xff\xff"}
	var want []api.User
	for _, kind := range odd {
		for _, id := range odd {
			for _, relation := range odd {
				want = append(want, api.User{Kind: kind, ID: id, Relation: relation})
			}
		}
	}
	at := api.Tree{Op: "or"}
	for i := range want { // a third each, turned round, and some twice
		switch u := want[len(want)-1-i]; i % 3 {
		case 0:
			at.Users = append(at.Users, u)
		case 1:
			at.Parts = append(at.Parts, api.Tree{Op: "or", Users: []api.User{u, want[0], u}})
		default:
			at.Parts = append(at.Parts, api.Tree{Op: "and", Parts: []api.Tree{{Op: "or", Users: []api.User{want[i/2], u}}, {Op: "or", Users: []api.User{u}}}})
		}
	}
	if got := Flat(at); !slices.Equal(got, want) {
		t.Errorf("Flat is %d users, not %d, or in another order", len(got), len(want))
	}
	for _, u := range []api.User{{}, {Kind: "\x00"}, {Relation: "\xff"}} {
		if ways := Why(at, u); !sameWays(ways, wantWhy(at, u)) || len(ways) == 0 {
			t.Errorf("Why(%q) is %v", u, ways)
		}
	}
}

// Ways written out by hand: each a row of numbers.
var whys = []struct{ tree, user, want string }{
	{"none", "user:x", ""},
	{"or[user:y user:xx user:x#r x:user]", "user:x", ""},
	{"or[user:x]", "user:x", "."},
	{"or[user:y user:x user:x]", "user:x", "."},
	{"or[user:x](or[user:x] or[user:y](or[user:x user:y] or[user:x]) or[user:x])", "user:x", ". .0 .1.0 .1.1 .2"},
	{"or(or(or(or[user:x])))", "user:x", ".0.0.0"},
	{"or(or(or(or[user:x])) or[user:x])", "user:x", ".0.0.0 .1"},
	{"or(or[user:x](or[user:x](or[user:x])))", "user:x", ".0 .0.0 .0.0.0"},
	{"but(and(or or[user:x]) or[user:x])", "user:x", ".0.1 .1"},
	// Whatever a node's Op is, and whether it is in the tree.
	{"none[user:x](this[user:x] [user:x] but[user:x](and[user:x]))", "user:x", ". .0 .1 .2 .2.0"},
	{"or(" + strings.Repeat("or ", 12) + "or[user:x](" + strings.Repeat("or ", 10) + "or[user:x]))", "user:x", ".12 .12.10"},
}

// P15.2: the ways to a user, by hand: nodes ahead of their Parts, Parts in order.
func TestWhy(t *testing.T) {
	for _, x := range whys {
		at := tree(t, x.tree)
		ways := Why(at, user(t, x.user))
		var texts []string
		for _, way := range ways {
			s := "."
			for i, n := range way {
				if i > 0 {
					s += "."
				}
				s += strconv.Itoa(n)
			}
			texts = append(texts, s)
		}
		if got := strings.Join(texts, " "); got != x.want || x.want == "" && ways != nil {
			t.Errorf("Why(%s, %s) is %s, not %s", x.tree, x.user, got, x.want)
		}
		if !sameWays(ways, wantWhy(at, user(t, x.user))) || treeText(at) != x.tree {
			t.Errorf("Why(%s, %s) is %v, or the tree was changed", x.tree, x.user, ways)
		}
	}
}

// P15.2: users and ways are new memory; no way shares any with another one.
func TestAnswersAreNewMemory(t *testing.T) {
	text := "or[user:x](or[user:x](or[user:x] or[user:x]) or[user:x](or[user:x](or[user:x])) or[user:x])"
	at := tree(t, text)
	x := user(t, "user:x")
	want := wantWhy(at, x)
	ways := Why(at, x)
	for i := range ways {
		way := ways[i][:cap(ways[i])]
		for j := range way {
			way[j] = -1
		}
		for k := range ways {
			if k > i && !slices.Equal(ways[k], want[k]) {
				t.Fatalf("way %d was changed with way %d", k, i)
			}
		}
	}
	if again := Why(at, x); !sameWays(again, want) {
		t.Errorf("Why is %v, not %v", again, want)
	}
	for _, text := range []string{"or[user:x user:y]", "and(or[user:x user:y])", "but(or[user:x user:y] none)"} {
		at := tree(t, text)
		got := Flat(at)
		all := got[:cap(got)]
		for i := range all {
			all[i] = api.User{}
		}
		if again := Flat(at); usersText(again) != "user:x user:y" || treeText(at) != text {
			t.Errorf("Flat(%s) is %s now", text, usersText(again))
		}
	}
}

// P15.2: the spare room of what is handed in isn't touched.
func TestSpareRoomStays(t *testing.T) {
	spare := func() ([]api.User, []api.Tree) {
		l := []api.User{{Kind: "b"}, {Kind: "a"}, {Kind: "spare"}}
		parts := []api.Tree{{Op: "or", Users: l[:2]}, {Op: "or", Users: l[:1]}, {Op: "spare"}}
		return l, parts
	}
	for _, op := range []string{"or", "and", "but"} {
		l, parts := spare()
		at := api.Tree{Op: op, Users: l[:2], Parts: parts[:2]}
		Flat(at)
		Why(at, api.User{Kind: "a"})
		Size(at)
		was, _ := spare()
		if !slices.Equal(l, was) || parts[2].Op != "spare" || !slices.Equal(parts[0].Users, was[:2]) || !slices.Equal(parts[1].Users, was[:1]) {
			t.Errorf("what %s was handed is changed: %v, %v", op, l, parts)
		}
	}
}

// deepest is how many parts may be in one another.
const deepest = 1 << 16

// numbered is a user by its number, in whose order users stand.
func numbered(i int) api.User {
	return api.User{Kind: "user", ID: "n" + strconv.Itoa(1000000+i)}
}

// nested is a tree that is so deep: each node is made of the one below it.
func nested(deep int, node func(i int, below api.Tree) api.Tree) api.Tree {
	at := api.Tree{Op: "or", Users: []api.User{numbered(0)}}
	for i := 1; i < deep; i++ {
		at = node(i, at)
	}
	return at
}

// one is a node that names users by their numbers.
func one(numbers ...int) api.Tree {
	at := api.Tree{Op: "or"}
	for _, i := range numbers {
		at.Users = append(at.Users, numbered(i))
	}
	return at
}

// P15.2: trees as deep as may be, and users that go through all of it, take no longer than their nodes.
func TestDeepTrees(t *testing.T) {
	some := make([]int, deepest)
	for i := range some {
		some[i] = i
	}
	crowded := one(some...)
	for _, x := range []struct {
		name string
		tree api.Tree
		want []int
	}{
		{"or, each with a user", nested(deepest, func(i int, below api.Tree) api.Tree {
			return api.Tree{Op: "or", Users: []api.User{numbered(i)}, Parts: []api.Tree{below}}
		}), some},
		{"or, each with a user ahead of a part", nested(deepest, func(i int, below api.Tree) api.Tree {
			return api.Tree{Op: "or", Parts: []api.Tree{one(i), below}}
		}), some},
		{"or, each with a user behind a part", nested(deepest, func(i int, below api.Tree) api.Tree {
			return api.Tree{Op: "or", Parts: []api.Tree{below, one(i)}}
		}), some},
		{"and, of one part", nested(deepest, func(i int, below api.Tree) api.Tree {
			return api.Tree{Op: "and", Parts: []api.Tree{below}}
		}), some[:1]},
		{"and, with few others", nested(deepest, func(i int, below api.Tree) api.Tree {
			if i == 1 {
				below = crowded
			}
			return api.Tree{Op: "and", Parts: []api.Tree{below, one(7, i)}}
		}), []int{7}},
		{"and, with few others ahead", nested(deepest, func(i int, below api.Tree) api.Tree {
			if i == 1 {
				below = crowded
			}
			return api.Tree{Op: "and", Parts: []api.Tree{one(7, i), below}}
		}), []int{7}},
		{"but, one by one from many", nested(deepest, func(i int, below api.Tree) api.Tree {
			if i == 1 {
				below = crowded
			}
			return api.Tree{Op: "but", Parts: []api.Tree{below, one(i)}}
		}), some[:1]},
		{"but, few without the rest", nested(deepest, func(i int, below api.Tree) api.Tree {
			return api.Tree{Op: "but", Parts: []api.Tree{one(i, i+1, 5), below}}
		}), nil},
		{"and of buts from many", nested(deepest/2, func(i int, below api.Tree) api.Tree {
			if i == 1 {
				below = api.Tree{Op: "but", Parts: []api.Tree{crowded, one(some[1:]...)}}
			}
			return api.Tree{Op: "and", Parts: []api.Tree{{Op: "but", Parts: []api.Tree{below, one(i)}}, one(0)}}
		}), some[:1]},
	} {
		t.Run(x.name, func(t *testing.T) {
			got := Flat(x.tree)
			if x.want == nil { // too deep to be told by hand: what each node has is known from the one below it
				x.want = alternating()
			}
			want := one(x.want...).Users
			if !slices.Equal(got, want) {
				t.Errorf("Flat is %d users, not %d", len(got), len(want))
			}
			if n := Size(x.tree); n < deepest {
				t.Errorf("Size is %d", n)
			}
			if ways := Why(x.tree, api.User{}); ways != nil {
				t.Errorf("Why is %d ways", len(ways))
			}
		})
	}
}

// alternating is whom the deepest of nodes has that have i, i + 1 and 5, without those of the node below.
func alternating() []int {
	below := []int{0}
	for i := 1; i < deepest; i++ {
		here := []int{i, i + 1, 5}
		slices.Sort(here)
		here = slices.Compact(here)
		below = slices.DeleteFunc(here, func(k int) bool { return slices.Contains(below, k) })
	}
	return below
}

// P15.2: the way to the deepest node, and to many nodes below a deep one.
func TestDeepWays(t *testing.T) {
	at := nested(deepest, func(i int, below api.Tree) api.Tree {
		return api.Tree{Op: "or", Parts: []api.Tree{{Op: "none"}, below}}
	})
	ways := Why(at, numbered(0))
	want := make([]int, deepest-1)
	for i := range want {
		want[i] = 1
	}
	if !sameWays(ways, [][]int{want}) {
		t.Errorf("Why is %d ways", len(ways))
	}
	if n := Size(at); n != 2*deepest-1 {
		t.Errorf("Size is %d, not %d", n, 2*deepest-1)
	}
	for _, deep := range []int{1 << 15, 1<<15 + 1} { // beside one another, so deep that going down mustn't copy the way
		many := api.Tree{Op: "or", Parts: make([]api.Tree, 1<<16)}
		many.Parts[1<<15] = one(1)
		at = nested(deep, func(i int, below api.Tree) api.Tree {
			if i == 1 {
				below = many
			}
			return api.Tree{Op: "or", Parts: []api.Tree{below}}
		})
		if ways = Why(at, numbered(1)); len(ways) != 1 || len(ways[0]) != deep || ways[0][deep-1] != 1<<15 {
			t.Errorf("Why is %d ways", len(ways))
		}
		if n := Size(at); n != deep+1<<16 {
			t.Errorf("Size is %d", n)
		}
	}
}

// P15.2: a wide tree.
func TestWideTree(t *testing.T) {
	const wide = 1 << 18
	at := api.Tree{Op: "or"}
	for i := range wide {
		at.Parts = append(at.Parts, one(wide-i, wide-i+1))
	}
	if got := Flat(at); len(got) != wide+1 || got[0] != numbered(1) || got[wide] != numbered(wide+1) {
		t.Errorf("Flat is %d users", len(got))
	}
	if ways := Why(at, numbered(5)); !sameWays(ways, [][]int{{wide - 5}, {wide - 4}}) {
		t.Errorf("Why is %v", ways)
	}
	if n := Size(at); n != wide+1 {
		t.Errorf("Size is %d", n)
	}
}
