package expand

import (
	"math"
	"slices"
	"strconv"
	"strings"
	"testing"

	"lunette/api"
	"lunette/facts"
	"lunette/rule"
)

// An asked is a relation to an object, a depth, and the tree.
type asked struct {
	object string
	depth  int
	want   string
}

// Trees written out by hand: rules, tuples, and what is asked of them.
var written = []struct {
	name, rules string
	tuples      []string
	asked       []asked
}{
	{
		"the example",
		"kind group\nmember = this\nkind doc\nviewer = this\n",
		[]string{"doc:a#viewer@user:x", "doc:a#viewer@group:g#member", "group:g#member@user:y"},
		[]asked{
			{"doc:a#viewer", 0, "none"},
			{"doc:a#viewer", 1, "or[group:g#member user:x](none)"},
			{"doc:a#viewer", 2, "or[group:g#member user:x](or[user:y])"},
			{"doc:a#viewer", 16, "or[group:g#member user:x](or[user:y])"},
			{"doc:b#viewer", 16, "or"},
			{"doc:b#viewer", 0, "none"},
			{"group:g#member", 1, "or[user:y]"},
		},
	},
	{
		"this: users, and the trees of those with a relation, in their order; none where there is no rule",
		"kind group\nmember = this\nkind doc\nviewer = this\nowner = this\n",
		[]string{
			"doc:a#viewer@group:b-#member", "doc:a#viewer@group:b#member", "doc:a#viewer@group:b#boss", "doc:a#viewer@group:b", "doc:a#viewer@user:x#member",
			"doc:a#viewer@doc:c#viewer", "doc:a#viewer@doc:c#owner", "doc:a#viewer@doc:c", "group:b#member@user:one", "group:b-#member@user:two",
			"group:b#boss@user:no", "user:x#member@user:no", "doc:c#owner@user:y", "doc:c#viewer@user:z", "doc:b#viewer@user:no", "doc:a#owner@user:no",
		},
		[]asked{
			{
				"doc:a#viewer", 2,
				"or[doc:c doc:c#owner doc:c#viewer group:b group:b#boss group:b#member group:b-#member user:x#member]" +
					"(or[user:y] or[user:z] none or[user:one] or[user:two] none)",
			},
			{
				"doc:a#viewer", 1,
				"or[doc:c doc:c#owner doc:c#viewer group:b group:b#boss group:b#member group:b-#member user:x#member](none none none none none none)",
			},
		},
	},
	{
		"groups in themselves, and in one another",
		"kind group\nmember = this\n",
		[]string{
			"group:self#member@group:self#member", "group:self#member@user:x", "group:a#member@group:b#member", "group:b#member@group:a#member",
			"group:b#member@user:x", "group:two#member@group:a#member", "group:two#member@group:two#member",
		},
		[]asked{
			{"group:self#member", 3, "or[group:self#member user:x](or[group:self#member user:x](or[group:self#member user:x](none)))"},
			{"group:a#member", 2, "or[group:b#member](or[group:a#member user:x](none))"},
			{"group:b#member", 2, "or[group:a#member user:x](or[group:b#member](none))"},
			{"group:two#member", 2, "or[group:a#member group:two#member](or[group:b#member](none) or[group:a#member group:two#member](none none))"},
		},
	},
	{
		"rel: the other relation's tree, with no node for itself; tuples are looked at by this alone",
		"kind doc\na = b\nb = c\nc = this\nd = (or a this)\nloop = loop\n",
		[]string{"doc:x#a@user:a", "doc:x#b@user:b", "doc:x#c@user:c", "doc:x#d@user:d", "doc:y#c@user:y", "doc:x#loop@user:l"},
		[]asked{
			{"doc:x#a", 0, "none"},
			{"doc:x#a", 1, "none"},
			{"doc:x#a", 2, "none"},
			{"doc:x#a", 3, "or[user:c]"},
			{"doc:x#b", 2, "or[user:c]"},
			{"doc:x#d", 3, "or(none or[user:d])"},
			{"doc:x#d", 4, "or(or[user:c] or[user:d])"},
			{"doc:y#d", 16, "or(or[user:y] or)"},
			{"doc:x#loop", 16, "none"},
		},
	},
	{
		"from: objects that tuples name, whoever has Of by its rule; none with a relation; of whatever kind they are",
		"kind doc\nparent = other\nother = this\nviewer = (from parent viewer)\nkind dir\nviewer = this\nkind none\n",
		[]string{
			"doc:a#other@dir:d", "doc:b#parent@dir:d", "doc:c#parent@dir:d#viewer", "doc:e#parent@none:n", "doc:e#parent@user:u", "doc:e#parent@dir:d",
			"doc:e#parent@doc:b", "doc:e#parent@doc:b-", "doc:g#parent@doc:b", "dir:d#viewer@user:x", "none:n#viewer@user:x", "user:u#viewer@user:x",
			"doc:h#parent@dir:d", "doc:h#parent@doc:h", "doc:b#viewer@user:no",
		},
		[]asked{
			{"doc:a#viewer", 9, "or"},
			{"doc:b#viewer", 1, "or(none)"},
			{"doc:b#viewer", 2, "or(or[user:x])"},
			{"doc:c#viewer", 9, "or"},
			{"doc:e#viewer", 9, "or(or[user:x] or(or[user:x]) or none none)"},
			{"doc:e#viewer", 2, "or(or[user:x] or(none) or none none)"},
			{"doc:g#viewer", 2, "or(or(none))"},
			{"doc:g#viewer", 3, "or(or(or[user:x]))"},
			{"doc:h#viewer", 2, "or(or[user:x] or(none none))"},
			{"doc:h#viewer", 3, "or(or[user:x] or(or[user:x] or(none none)))"},
			{"doc:b#parent", 9, "or"},
			{"doc:a#parent", 2, "or[dir:d]"},
		},
	},
	{
		"or, and, but: each with its Parts' trees, to the same depth, and without Users",
		"kind doc\na = this\nb = this\nparent = this\n" +
			"one = (or a this b)\nall = (and a this b)\nnot = (but this a)\n" +
			"mixed = (but (and (or this a b) (from parent a) (or (but b a) this)) (and this this))\n",
		[]string{
			"doc:x#a@user:a", "doc:x#b@user:b", "doc:x#one@user:c", "doc:x#all@user:c", "doc:x#not@user:c",
			"doc:x#mixed@user:m", "doc:x#parent@doc:y", "doc:y#a@user:y",
		},
		[]asked{
			{"doc:x#one", 0, "none"},
			{"doc:x#one", 1, "or(none or[user:c] none)"},
			{"doc:x#one", 2, "or(or[user:a] or[user:c] or[user:b])"},
			{"doc:x#all", 1, "and(none or[user:c] none)"},
			{"doc:x#all", 2, "and(or[user:a] or[user:c] or[user:b])"},
			{"doc:x#not", 1, "but(or[user:c] none)"},
			{"doc:x#not", 2, "but(or[user:c] or[user:a])"},
			{"doc:z#not", 2, "but(or or)"},
			{
				"doc:x#mixed", 2,
				"but(and(or(or[user:m] or[user:a] or[user:b]) or(or[user:y]) or(but(or[user:b] or[user:a]) or[user:m])) and(or[user:m] or[user:m]))",
			},
			{
				"doc:x#mixed", 1,
				"but(and(or(or[user:m] none none) or(none) or(but(none none) or[user:m])) and(or[user:m] or[user:m]))",
			},
		},
	},
	{
		"the same object by several ways: as often as there are ways, to each way's depth",
		"kind group\nmember = this\nkind doc\nviewer = (or this (from parent viewer))\nparent = this\n",
		[]string{
			"doc:a#parent@doc:b", "doc:a#parent@doc:c", "doc:b#parent@doc:d", "doc:c#parent@doc:d", "doc:a#parent@doc:d",
			"doc:d#viewer@group:g#member", "group:g#member@user:x",
		},
		[]asked{
			{
				"doc:a#viewer", 3,
				"or(or or(or(or or(or(or[group:g#member](none) or))) or(or or(or(or[group:g#member](none) or))) or(or[group:g#member](or[user:x]) or)))",
			},
		},
	},
}

// holdsTree is whether Tree, and Size of it, are as they should be: at budgets from the size on, and not below.
func holdsTree(t *testing.T, l []api.Kind, f *facts.Facts, o api.User, depth int, want api.Tree) {
	t.Helper()
	size := wantSize(want)
	for _, budget := range []int{size, size + 1, 1 << 40, math.MaxInt} {
		x, e := Tree(l, f, o, depth, budget)
		if treeText(x) != treeText(want) || e != api.OK {
			t.Errorf("Tree(%v, %d, %d) is %s, %d, not %s", o, depth, budget, treeText(x), e, treeText(want))
		}
		if Size(x) != size {
			t.Errorf("Size(%s) is %d, not %d", treeText(x), Size(x), size)
		}
	}
	for _, budget := range []int{size - 1, size / 2, 0, -1, -size, math.MinInt} {
		x, e := Tree(l, f, o, depth, budget)
		if !isZero(x) || e != api.ErrCheckBudget {
			t.Errorf("Tree(%v, %d, %d) is %s, %d, not %d", o, depth, budget, treeText(x), e, api.ErrCheckBudget)
		}
	}
}

// isZero is whether a tree is that of no answer.
func isZero(t api.Tree) bool {
	return t.Op == "" && t.Users == nil && t.Parts == nil
}

// P15.1: trees written out by hand.
func TestWrittenTrees(t *testing.T) {
	for _, x := range written {
		t.Run(x.name, func(t *testing.T) {
			l, f := rules(t, x.rules), facts.New(tuples(t, x.tuples...))
			for _, y := range x.asked {
				holdsTree(t, l, f, user(t, y.object), y.depth, tree(t, y.want))
			}
		})
	}
}

// P15.1: the object's names may be whatever they are, if its relation has a rule.
func TestObjectsThatAreNotNamed(t *testing.T) {
	l := rules(t, "kind doc\nviewer = (or this (from viewer viewer))\n")
	f := facts.New(tuples(t, "doc:a#viewer@doc:b", "doc:b#viewer@user:x"))
	for _, id := range []string{"", "A", "a b", "#", "\x00", "\xff", strings.Repeat("a", 1<<20)} {
		holdsTree(t, l, f, api.User{Kind: "doc", ID: id, Relation: "viewer"}, 9, tree(t, "or(or or)"))
	}
}

// wrongRules are rules that may not be, each by another error.
func wrongRules() map[api.Errno][]api.Kind {
	this := api.Expr{Op: "this"}
	deep := this
	for range api.MaxDeep {
		deep = api.Expr{Op: "or", Parts: []api.Expr{this, deep}}
	}
	of := func(e api.Expr) []api.Kind {
		return []api.Kind{{Name: "doc", Rules: []api.Rule{{Relation: "viewer", Expr: this}, {Relation: "bad", Expr: e}}}}
	}
	return map[api.Errno][]api.Kind{
		api.ErrRuleDeep: of(deep),
		api.ErrRuleForm: of(api.Expr{Op: "or", Parts: []api.Expr{this}}),
		api.ErrRuleName: of(api.Expr{Op: "rel", Name: "none"}),
	}
}

// P15.1: the errors, each ahead of those behind it.
func TestErrorsOfTree(t *testing.T) {
	l := rules(t, "kind doc\nviewer = this\nkind dir\n")
	f := facts.New(tuples(t, "doc:a#viewer@user:x"))
	fails := func(l []api.Kind, o api.User, depth, budget int, want api.Errno) {
		t.Helper()
		if x, e := Tree(l, f, o, depth, budget); !isZero(x) || e != want {
			t.Errorf("Tree(%v, %v, %d, %d) is %s, %d, not %d", l, o, depth, budget, treeText(x), e, want)
		}
	}
	right, wrong := user(t, "doc:a#viewer"), user(t, "doc:a#none")
	for _, depth := range []int{-1, 17, -16, 1 << 40, math.MaxInt, math.MinInt} {
		fails(l, right, depth, 9, api.ErrCheckDeep)
		fails(l, wrong, depth, 0, api.ErrCheckDeep)
		for _, bad := range wrongRules() {
			fails(bad, wrong, depth, 0, api.ErrCheckDeep)
			fails(bad, right, depth, 9, api.ErrCheckDeep)
		}
	}
	for _, depth := range []int{0, 1, 16} {
		for e, bad := range wrongRules() {
			fails(bad, right, depth, 9, e)
			fails(bad, wrong, depth, 9, e)
			fails(bad, wrong, depth, 0, e)
		}
		for _, o := range []api.User{wrong, {}, {Kind: "doc", ID: "a"}, {Kind: "dir", ID: "a", Relation: "viewer"}, {Kind: "user", ID: "x", Relation: "viewer"}, {ID: "a", Relation: "viewer"}, {Kind: "doc", ID: "a", Relation: "Viewer"}} {
			fails(l, o, depth, 9, api.ErrCheckRule)
			fails(l, o, depth, 0, api.ErrCheckRule)
			fails(nil, o, depth, 9, api.ErrCheckRule)
		}
		fails(nil, right, depth, 9, api.ErrCheckRule)
		fails(l, right, depth, 0, api.ErrCheckBudget)
		fails(l, right, depth, -1, api.ErrCheckBudget)
		if _, e := Tree(l, f, right, depth, 1); e != api.OK {
			t.Errorf("Tree to the depth %d is %d", depth, e)
		}
	}
}

// full is so many groups each of which has all of them as members.
func full(n int) *facts.Facts {
	f := facts.New(nil)
	group := func(i int) api.User { return api.User{Kind: "group", ID: strconv.Itoa(i), Relation: "member"} }
	for i := range n {
		for j := range n {
			f.Put(api.Tuple{Kind: "group", ID: group(i).ID, Relation: "member", User: group(j)})
		}
	}
	return f
}

// P15.1: a tree that has far more nodes than may be is an error, soon, also if their number is none any more.
func TestTreesAboveAllBudgets(t *testing.T) {
	l := rules(t, "kind group\nmember = this\n")
	o := user(t, "group:0#member")
	for _, n := range []int{1, 2, 3, 4, 5, 7, 8, 15, 16, 17, 32, 64} {
		f := full(n)
		for depth := range api.MaxDepth + 1 {
			size, level := 0.0, 1.0
			for range depth + 1 {
				size += level
				level *= float64(n)
			}
			for _, budget := range []int{1, 1000, math.MaxInt32, math.MaxInt64} {
				if size > 20000 && size <= float64(budget) {
					continue
				}
				want := api.OK
				if size > float64(budget) {
					want = api.ErrCheckBudget
				}
				x, e := Tree(l, f, o, depth, budget)
				if e != want || e != api.OK && !isZero(x) {
					t.Errorf("Tree of %d groups to the depth %d, %d is %d, not %d", n, depth, budget, e, want)
				}
				if e == api.OK && Size(x) != int(size) {
					t.Errorf("Tree of %d groups to the depth %d has %d nodes, not %v", n, depth, Size(x), size)
				}
			}
		}
	}
}

// P15.1: parts of expressions, too, make a tree that has too many nodes.
func TestExpressionsAboveAllBudgets(t *testing.T) {
	for _, text := range []string{
		"kind doc\na = (or a a)\nb = this\n",
		"kind doc\na = (and a a a)\nb = this\n",
		"kind doc\na = (but (but a a) (or a b))\nb = this\n",
		"kind doc\na = (or" + strings.Repeat(" a", 63) + ")\nb = this\n",
		"kind doc\na = (or (from b a) (from b a))\nb = this\n",
	} {
		l, f := rules(t, text), facts.New(tuples(t, "doc:x#b@doc:x"))
		for _, budget := range []int{0, 1, 2, 60, 10000} {
			if x, e := Tree(l, f, user(t, "doc:x#a"), 16, budget); !isZero(x) || e != api.ErrCheckBudget {
				t.Errorf("Tree of %q by %d is %s, %d", text, budget, treeText(x), e)
			}
		}
	}
	wide := rules(t, "kind doc\na = (or"+strings.Repeat(" a", 63)+")\n")
	if x, e := Tree(wide, facts.New(nil), user(t, "doc:x#a"), 16, math.MaxInt); !isZero(x) || e != api.ErrCheckBudget {
		t.Errorf("Tree of 63 parts in one another is %d", e)
	}
}

// P15.1: many tuples.
func TestManyTuples(t *testing.T) {
	const many = 1 << 16
	l := rules(t, "kind group\nmember = this\nkind doc\nviewer = (or this (from parent viewer))\nparent = this\n")
	f := facts.New(nil)
	name := func(i int) string { return "n" + strconv.Itoa(100000+i) }
	for i := range many {
		f.Put(api.Tuple{Kind: "doc", ID: "a", Relation: "parent", User: api.User{Kind: "doc", ID: name(i)}})
		f.Put(api.Tuple{Kind: "doc", ID: name(i), Relation: "viewer", User: api.User{Kind: "user", ID: name(i)}})
		f.Put(api.Tuple{Kind: "doc", ID: "all", Relation: "viewer", User: api.User{Kind: "group", ID: name(i), Relation: "member"}})
		f.Put(api.Tuple{Kind: "doc", ID: name(i), Relation: "parent", User: api.User{Kind: "doc", ID: "all"}})
	}
	// a, its parents, and of each its own viewers, and all's, which is told by many parts: above all that may be answered.
	a, all := user(t, "doc:a#viewer"), user(t, "doc:all#viewer")
	if _, e := Tree(l, f, a, 16, math.MaxInt32); e != api.ErrCheckBudget {
		t.Errorf("Tree is %d", e)
	}
	x, e := Tree(l, f, a, 2, 3+4*many)
	if e != api.OK || Size(x) != 3+4*many {
		t.Fatalf("Tree to the depth 2 is %d, with %d nodes", e, Size(x))
	}
	if people := Flat(x); len(people) != many || people[9] != (api.User{Kind: "user", ID: name(9)}) {
		t.Errorf("Flat is %d users", len(people))
	}
	if ways := Why(x, api.User{Kind: "user", ID: name(99)}); !sameWays(ways, [][]int{{1, 99, 0}}) {
		t.Errorf("Why is %v", ways)
	}
	x, e = Tree(l, f, all, 1, 3+many)
	if e != api.OK || len(x.Parts[0].Parts) != many || len(Flat(x)) != many {
		t.Errorf("Tree of all is %d", e)
	}
	if _, e = Tree(l, f, all, 1, 2+many); e != api.ErrCheckBudget {
		t.Errorf("Tree of all is %d", e)
	}
}

// spoil changes all that a tree's lists hold, and their spare room.
func spoil(t api.Tree) {
	for i := range t.Users[:cap(t.Users)] {
		t.Users[:cap(t.Users)][i] = api.User{Kind: "spoilt", ID: strconv.Itoa(i)}
	}
	for i := range t.Parts {
		spoil(t.Parts[i])
	}
	for i := range t.Parts[:cap(t.Parts)] {
		t.Parts[:cap(t.Parts)][i] = api.Tree{Op: "spoilt"}
	}
}

// P15.1: a tree is new memory, and none of its lists shares any with another one; nothing is changed or kept.
func TestTreeIsNewMemory(t *testing.T) {
	x := written[len(written)-1]
	l, f := rules(t, x.rules), facts.New(tuples(t, x.tuples...))
	o := user(t, x.asked[0].object)
	first, _ := Tree(l, f, o, 16, 1000)
	second, _ := Tree(l, f, o, 16, 1000)
	text := treeText(first)
	before := f.All()
	// doc:d is a part of doc:a's parents 0 and 1, and is itself the parent 2.
	mine, theirs := &first.Parts[1].Parts[0].Parts[1].Parts[0], &first.Parts[1].Parts[1].Parts[1].Parts[0]
	if want := "or(or[group:g#member](or[user:x]) or)"; treeText(*mine) != want || treeText(*theirs) != want || treeText(first.Parts[1].Parts[2]) != want {
		t.Fatalf("the tree is %s", text)
	}
	spoil(*mine)
	if rest := treeText(first); strings.Count(rest, "or(or[group:g#member](or[user:x]) or)") != 2 || strings.Count(rest, "spoilt") != 2 {
		t.Errorf("of %s, behind a change of one part, there is %s", text, rest)
	}
	spoil(first)
	if treeText(second) != text {
		t.Errorf("%s was changed into %s", text, treeText(second))
	}
	third, e := Tree(l, f, o, 16, 1000)
	if treeText(third) != text || e != api.OK {
		t.Errorf("%s is %s now, %d", text, treeText(third), e)
	}
	shown, _ := rule.Show(l)
	if !slices.Equal(f.All(), before) || shown != x.rules {
		t.Error("the rules or the tuples were changed")
	}
	for i := range l {
		for j := range l[i].Rules {
			l[i].Rules[j] = api.Rule{}
		}
		l[i] = api.Kind{}
	}
	f.Drop(before[0])
	if treeText(third) != text {
		t.Errorf("%s was changed by the rules, or the tuples", text)
	}
}
