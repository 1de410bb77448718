package rule

import (
	"math/rand"
	"slices"
	"strings"
	"testing"

	"lunette/api"
)

// Rules that may be, with their texts, written out by hand: ordinary ones and the edges.
var written = []struct {
	text  string
	rules []api.Kind
	but   bool
}{
	{"", nil, false},
	{"kind a\n", []api.Kind{{Name: "a"}}, false},
	{"kind rel\nrel = rel\n", []api.Kind{{Name: "rel", Rules: []api.Rule{{Relation: "rel", Expr: rel("rel")}}}}, false},
	{
		"kind doc\nowner = this\nviewer = (or this owner (from parent viewer))\nparent = this\n",
		[]api.Kind{{Name: "doc", Rules: []api.Rule{
			{Relation: "owner", Expr: this()},
			{Relation: "viewer", Expr: of("or", this(), rel("owner"), from("parent", "viewer"))},
			{Relation: "parent", Expr: this()},
		}}},
		false,
	},
	{
		"kind user\nkind group\nmember = this\nkind doc\nbanned = this\nviewer = (but (and this (or banned viewer)) (from banned member))\n",
		[]api.Kind{
			{Name: "user"},
			{Name: "group", Rules: []api.Rule{{Relation: "member", Expr: this()}}},
			{Name: "doc", Rules: []api.Rule{
				{Relation: "banned", Expr: this()},
				{Relation: "viewer", Expr: of("but", of("and", this(), of("or", rel("banned"), rel("viewer"))), from("banned", "member"))},
			}},
		},
		true,
	},
	{
		"kind zzzzzzzzzzzz\nz23456789012 = (from z23456789012 zzzzzzzzzzzz)\nkind thisa\nora = (from ora from_)\nands = ora\n",
		[]api.Kind{
			{Name: "zzzzzzzzzzzz", Rules: []api.Rule{{Relation: "z23456789012", Expr: from("z23456789012", "zzzzzzzzzzzz")}}},
			{Name: "thisa", Rules: []api.Rule{{Relation: "ora", Expr: from("ora", "from_")}, {Relation: "ands", Expr: rel("ora")}}},
		},
		false,
	},
	{
		"kind a\nb = (and (or (and (or (and (or (and this this) b) b) b) b) b) (from b b))\n",
		one(of("and", of("or", of("and", of("or", of("and", of("or", of("and", this(), this()), rel("b")), rel("b")), rel("b")), rel("b")), rel("b")), from("b", "b"))),
		false,
	},
	{"kind a\nb = (or this this this this)\n", one(of("or", this(), this(), this(), this())), false},
	{"kind a\nb = (but (but b b) (but this this))\n", one(of("but", of("but", rel("b"), rel("b")), of("but", this(), this()))), true},
}

// P12.1 to P12.3: as written out by hand, there and back.
func TestWrittenRules(t *testing.T) {
	for _, x := range written {
		if e := Check(x.rules); e != api.OK {
			t.Errorf("Check(%v) is %d", x.rules, e)
		}
		if s, e := Show(x.rules); s != x.text || e != api.OK {
			t.Errorf("Show(%v) is %q, %d", x.rules, s, e)
		}
		if l, n, e := Read(x.text); !sameRules(l, x.rules) || n != 0 || e != api.OK {
			t.Errorf("Read(%q) is %v, %d, %d", x.text, l, n, e)
		}
		if But(x.rules) != x.but {
			t.Errorf("But(%v) is %v", x.rules, !x.but)
		}
		for _, k := range x.rules {
			for _, r := range k.Rules {
				if e, ok := Find(x.rules, k.Name, r.Relation); !same(e, r.Expr) || !ok {
					t.Errorf("Find(%q, %q) is %v, %v", k.Name, r.Relation, e, ok)
				}
			}
		}
		holdsRules(t, x.rules)
	}
}

// Expressions that have no form.
var formless = []api.Expr{
	{},
	{Name: "b"},
	{Op: "This"},
	{Op: "kind"},
	{Op: "b"},
	{Op: "this", Name: "b"},
	{Op: "this", Of: "b"},
	{Op: "this", Parts: []api.Expr{this()}},
	{Op: "this", Parts: []api.Expr{this(), this()}},
	{Op: "rel"},
	{Op: "rel", Of: "b"},
	{Op: "rel", Name: "b", Of: "b"},
	{Op: "rel", Name: "b", Parts: []api.Expr{this(), this()}},
	{Op: "from"},
	{Op: "from", Name: "b"},
	{Op: "from", Of: "b"},
	{Op: "from", Name: "b", Of: "b", Parts: []api.Expr{this()}},
	{Op: "from", Name: "b", Of: "b", Parts: []api.Expr{this(), this()}},
	{Op: "or"},
	{Op: "or", Parts: []api.Expr{this()}},
	{Op: "or", Name: "b", Parts: []api.Expr{this(), this()}},
	{Op: "or", Of: "b", Parts: []api.Expr{this(), this()}},
	{Op: "or", Parts: []api.Expr{this(), {}}},
	{Op: "and"},
	{Op: "and", Parts: []api.Expr{this()}},
	{Op: "and", Name: "b", Parts: []api.Expr{this(), this()}},
	{Op: "and", Of: "b", Parts: []api.Expr{this(), this()}},
	{Op: "and", Parts: []api.Expr{{}, this()}},
	{Op: "but"},
	{Op: "but", Parts: []api.Expr{this()}},
	{Op: "but", Parts: []api.Expr{this(), this(), this()}},
	{Op: "but", Name: "b", Parts: []api.Expr{this(), this()}},
	{Op: "but", Of: "b", Parts: []api.Expr{this(), this()}},
	{Op: "but", Parts: []api.Expr{this(), {Op: "or"}}},
	{Op: "but", Parts: []api.Expr{{Op: "rel"}, this()}},
}

// P12.1: alone, and as any part of another one.
func TestCheckOfNoForm(t *testing.T) {
	for _, x := range formless {
		for _, e := range []api.Expr{
			x, of("or", x, this()), of("and", this(), this(), x), of("but", of("or", this(), x), this()),
			of("or", this(), of("or", this(), of("or", this(), of("or", this(), of("or", this(), of("or", x, this())))))),
		} {
			if got := holdsRules(t, one(e)); got != api.ErrRuleForm {
				t.Errorf("Check of %v is %d", e, got)
			}
		}
		l := append([]api.Kind{{Name: "x", Rules: []api.Rule{{Relation: "c", Expr: this()}, {Relation: "d", Expr: x}}}}, one(this())...)
		if got := holdsRules(t, l); got != api.ErrRuleForm {
			t.Errorf("Check of %v as one rule of some is %d", x, got)
		}
	}
}

// P12.1: names that are none, or have a meaning, wherever they stand.
func TestCheckOfNoName(t *testing.T) {
	for _, s := range []string{
		"", "this", "or", "and", "but", "from", "kind", "_", "_a", "1", "1a", "A", "aB", "a-b", "a.b", "a b", "a\n", " a", "a ", "é", "a\x00",
		"(a", "a)", "zzzzzzzzzzzzz", strings.Repeat("a", 1<<16),
	} {
		for i, l := range [][]api.Kind{
			{{Name: s}},
			{{Name: "a"}, {Name: s}, {Name: "b"}},
			{{Name: "a", Rules: []api.Rule{{Relation: s, Expr: this()}}}},
			{{Name: "a", Rules: []api.Rule{{Relation: s, Expr: rel(s + "x")}, {Relation: s + "x", Expr: this()}}}},
		} {
			if e := holdsRules(t, l); e != api.ErrRuleName {
				t.Errorf("Check with the name %q, at place %d, is %d", s, i, e)
			}
		}
		if s == "" { // a rel, or a from, without it has no form
			continue
		}
		for _, e := range []api.Expr{rel(s), from(s, "b"), from("b", s), of("or", this(), of("but", from("b", s), this()))} {
			if got := holdsRules(t, one(e)); got != api.ErrRuleName {
				t.Errorf("Check of %v is %d", e, got)
			}
		}
		l := []api.Kind{{Name: "a", Rules: []api.Rule{{Relation: s, Expr: rel(s)}}}}
		if e := holdsRules(t, l); e != api.ErrRuleName {
			t.Errorf("Check of a rel of its own relation %q is %d", s, e)
		}
	}
	for _, s := range []string{"rel", "thi", "thiss", "orr", "o", "ands", "kinds", "none", "a_", "zzzzzzzzzzzz"} {
		l := []api.Kind{{Name: s, Rules: []api.Rule{{Relation: s, Expr: of("or", rel(s), from(s, s), from(s, "elsewhere"))}}}}
		if e := holdsRules(t, l); e != api.OK {
			t.Errorf("Check with the name %q is %d", s, e)
		}
	}
}

// P12.1: names that are there twice, or aren't there.
func TestCheckOfNamesTwiceAndMissing(t *testing.T) {
	kind := func(name string, rules ...api.Rule) api.Kind { return api.Kind{Name: name, Rules: rules} }
	rule := func(relation string, e api.Expr) api.Rule { return api.Rule{Relation: relation, Expr: e} }
	for i, x := range []struct {
		l    []api.Kind
		want api.Errno
	}{
		{[]api.Kind{kind("a"), kind("b"), kind("a")}, api.ErrRuleName},
		{[]api.Kind{kind("a", rule("b", this())), kind("a", rule("c", this()))}, api.ErrRuleName},
		{[]api.Kind{kind("a", rule("b", this()), rule("c", this()), rule("b", rel("c")))}, api.ErrRuleName},
		{[]api.Kind{kind("a", rule("b", this()), rule("b", this()))}, api.ErrRuleName},
		{[]api.Kind{kind("a", rule("b", this())), kind("b", rule("b", this()))}, api.OK},
		{[]api.Kind{kind("a", rule("a", this()))}, api.OK},
		{[]api.Kind{kind("a", rule("b", rel("c")), rule("c", this()))}, api.OK}, // it comes behind
		{[]api.Kind{kind("a", rule("b", rel("b")))}, api.OK},
		{[]api.Kind{kind("a", rule("b", rel("c")))}, api.ErrRuleName},
		{[]api.Kind{kind("a", rule("b", rel("a")))}, api.ErrRuleName}, // a kind's name is no relation's
		{[]api.Kind{kind("a", rule("b", rel("c"))), kind("d", rule("c", this()))}, api.ErrRuleName},
		{[]api.Kind{kind("d", rule("c", this())), kind("a", rule("b", rel("c")))}, api.ErrRuleName},
		{[]api.Kind{kind("a", rule("b", from("c", "b"))), kind("d", rule("c", this()))}, api.ErrRuleName},
		{[]api.Kind{kind("d", rule("c", this())), kind("a", rule("b", from("c", "b")))}, api.ErrRuleName},
		{[]api.Kind{kind("a", rule("b", from("b", "c"))), kind("d", rule("c", this()))}, api.OK},
		{[]api.Kind{kind("a", rule("b", from("b", "nowhere")))}, api.OK},
		{[]api.Kind{kind("a", rule("b", of("or", this(), of("and", this(), rel("c")))))}, api.ErrRuleName},
		{[]api.Kind{kind("a", rule("b", of("or", of("and", from("c", "b"), this()), this())))}, api.ErrRuleName},
	} {
		if e := holdsRules(t, x.l); e != x.want {
			t.Errorf("%d: Check(%v) is %d", i, x.l, e)
		}
	}
}

// P12.1: at the limits, and one above.
func TestCheckOfLimits(t *testing.T) {
	kinds := func(n int) []api.Kind {
		return times(n, func(i int) api.Kind { return api.Kind{Name: number(i)} })
	}
	relations := func(n int) []api.Kind {
		rules := times(n, func(i int) api.Rule { return api.Rule{Relation: number(i), Expr: this()} })
		return []api.Kind{{Name: "a"}, {Name: "b", Rules: rules}, {Name: "c"}}
	}
	for i, x := range []struct {
		l    []api.Kind
		want api.Errno
	}{
		{kinds(64), api.OK}, {kinds(65), api.ErrRuleDeep}, {kinds(10000), api.ErrRuleDeep},
		{relations(64), api.OK}, {relations(65), api.ErrRuleDeep}, {relations(10000), api.ErrRuleDeep},
		{one(nested(8)), api.OK}, {one(nested(9)), api.ErrRuleDeep}, {one(nested(1 << 16)), api.ErrRuleDeep},
		{one(wide(64)), api.OK}, {one(wide(65)), api.ErrRuleDeep}, {one(wide(1 << 16)), api.ErrRuleDeep},
		{one(of("and", nested(7), this())), api.OK}, {one(of("and", nested(8), this())), api.ErrRuleDeep},
		{one(of("and", this(), nested(8))), api.ErrRuleDeep},
		{one(of("but", wide(31), wide(32))), api.OK}, {one(of("but", wide(32), wide(32))), api.ErrRuleDeep},
		{one(of("or", wide(32), wide(31))), api.OK}, {one(of("or", this(), wide(32), wide(31))), api.ErrRuleDeep},
	} {
		if e := holdsRules(t, x.l); e != x.want {
			t.Errorf("%d: Check is %d", i, e)
		}
		if x.want != api.OK { // the text of too much is read, but for that
			if l, n, e := Read(wantShow(x.l)); l != nil || n != 0 || e != x.want {
				t.Errorf("%d: Read is %d, %d", i, n, e)
			}
		}
	}
	full := times(64, func(i int) api.Kind {
		return api.Kind{Name: number(i), Rules: times(64, func(j int) api.Rule {
			return api.Rule{Relation: number(j), Expr: of("or", times(63, func(k int) api.Expr { return rel(number(k)) })...)}
		})}
	})
	if e := holdsRules(t, full); e != api.OK {
		t.Errorf("Check of as much as may be is %d", e)
	}
}

// P12.1: too much comes ahead of no form, and that ahead of no name, wherever each stands.
func TestCheckOfSeveralErrors(t *testing.T) {
	bad := map[api.Errno][]api.Rule{
		api.OK:          {{Relation: "o", Expr: this()}},
		api.ErrRuleDeep: {{Relation: "p", Expr: nested(9)}, {Relation: "q", Expr: wide(65)}},
		api.ErrRuleForm: {{Relation: "r", Expr: of("or", this())}, {Relation: "s"}},
		api.ErrRuleName: {{Relation: "this", Expr: this()}, {Relation: "u", Expr: rel("none")}, {Relation: "v", Expr: from("none", "v")}},
	}
	first := func(a, b api.Errno) api.Errno {
		for _, e := range []api.Errno{api.ErrRuleDeep, api.ErrRuleForm, api.ErrRuleName} {
			if a == e || b == e {
				return e
			}
		}
		return api.OK
	}
	for a, l := range bad {
		for b, m := range bad {
			for _, x := range l {
				for _, y := range m {
					if x.Relation == y.Relation {
						continue
					}
					for _, rules := range [][]api.Kind{
						{{Name: "a", Rules: []api.Rule{x, y}}},
						{{Name: "a", Rules: []api.Rule{x}}, {Name: "b", Rules: []api.Rule{y}}},
						{{Name: "a", Rules: []api.Rule{y}}, {Name: "b"}, {Name: "c", Rules: []api.Rule{x}}},
					} {
						if e := holdsRules(t, rules); e != first(a, b) {
							t.Errorf("Check(%.100v) is %d", rules, e)
						}
					}
				}
			}
		}
	}
	for _, x := range []struct {
		e    api.Expr
		want api.Errno
	}{
		{of("none", nested(8)), api.ErrRuleDeep},
		{of("this", wide(64)), api.ErrRuleDeep},
		{api.Expr{Parts: []api.Expr{nested(7)}}, api.ErrRuleForm},
		{of("but", rel("none"), of("or")), api.ErrRuleForm},
		{of("but", of("or"), rel("none")), api.ErrRuleForm},
		{of("rel", rel("none")), api.ErrRuleForm},
	} {
		if e := holdsRules(t, one(x.e)); e != x.want {
			t.Errorf("Check of %.100v is %d", x.e, e)
		}
	}
	twice := append(one(this()), one(of("or"))...)
	if e := holdsRules(t, twice); e != api.ErrRuleForm {
		t.Errorf("Check of a kind that is there twice, and an expression without a form, is %d", e)
	}
}

// P1: what is the part of many is gone over no more than tells that there is too much.
func TestCheckOfPartsThatAreShared(t *testing.T) {
	e := this()
	for range 200 {
		e = api.Expr{Op: "or", Parts: []api.Expr{e, e}}
	}
	l := one(e)
	if e := Check(l); e != api.ErrRuleDeep {
		t.Errorf("Check is %d", e)
	}
	if s, e := Show(l); s != "" || e != api.ErrRuleDeep {
		t.Errorf("Show is %q, %d", s, e)
	}
}

// P12.2: of the first kind the first rule, and of other kinds none; of rules that may not be, too.
func TestFind(t *testing.T) {
	l := []api.Kind{
		{Name: "a", Rules: []api.Rule{{Relation: "b", Expr: this()}, {Relation: "c", Expr: rel("b")}, {Relation: "b", Expr: rel("c")}}},
		{Name: "d"},
		{Name: "a", Rules: []api.Rule{{Relation: "b", Expr: from("b", "b")}, {Relation: "e", Expr: this()}}},
		{Name: "d", Rules: []api.Rule{{Relation: "e", Expr: this()}}},
		{Name: "", Rules: []api.Rule{{Relation: "", Expr: api.Expr{Op: "or", Name: "x", Of: "y", Parts: []api.Expr{{}, rel("")}}}}},
	}
	for _, x := range []struct {
		kind, relation string
		want           api.Expr
		ok             bool
	}{
		{"a", "b", this(), true},
		{"a", "c", rel("b"), true},
		{"a", "e", api.Expr{}, false},
		{"a", "", api.Expr{}, false},
		{"a", "a", api.Expr{}, false},
		{"a", "bb", api.Expr{}, false},
		{"d", "e", api.Expr{}, false},
		{"d", "b", api.Expr{}, false},
		{"b", "b", api.Expr{}, false},
		{"A", "b", api.Expr{}, false},
		{"", "b", api.Expr{}, false},
		{"", "", api.Expr{Op: "or", Name: "x", Of: "y", Parts: []api.Expr{{}, rel("")}}, true},
	} {
		if e, ok := Find(l, x.kind, x.relation); !same(e, x.want) || ok != x.ok {
			t.Errorf("Find(%q, %q) is %v, %v", x.kind, x.relation, e, ok)
		}
	}
	if e, ok := Find(nil, "", ""); !same(e, api.Expr{}) || ok {
		t.Errorf("Find in none is %v, %v", e, ok)
	}
}

// P12.2: of expressions that have no form, too.
func TestDeepAndSize(t *testing.T) {
	for _, x := range []struct {
		e          api.Expr
		deep, size int
	}{
		{api.Expr{}, 1, 1},
		{this(), 1, 1},
		{from("a", "b"), 1, 1},
		{api.Expr{Op: "or", Parts: []api.Expr{}}, 1, 1},
		{of("this", api.Expr{}), 2, 2},
		{of("or", this(), this()), 2, 3},
		{of("or", of("and", this(), this(), this()), this()), 3, 6},
		{of("or", this(), of("but", this(), of("x", this()))), 4, 6},
		{of("or", of("or", of("or", this())), of("or", this()), this()), 4, 7},
		{nested(8), 8, 15},
		{nested(9), 9, 17},
		{wide(64), 2, 64},
		{wide(100000), 2, 100000},
		{nested(1 << 16), 1 << 16, 1<<17 - 1},
	} {
		if deep, size := Deep(x.e), Size(x.e); deep != x.deep || size != x.size {
			t.Errorf("%.100v is %d deep, of the size %d", x.e, deep, size)
		}
	}
}

// P12.2: wherever it stands, in rules that may not be, too.
func TestBut(t *testing.T) {
	but := api.Expr{Op: "but"}
	for i, x := range []struct {
		l    []api.Kind
		want bool
	}{
		{nil, false},
		{[]api.Kind{{Name: "but"}}, false},
		{[]api.Kind{{Name: "but", Rules: []api.Rule{{Relation: "but", Expr: from("but", "but")}}}}, false},
		{one(of("or", this(), of("and", rel("but"), this()))), false},
		{one(api.Expr{Op: "buts"}), false},
		{one(nested(1 << 16)), false},
		{one(but), true},
		{one(of("or", this(), but)), true},
		{one(of("or", but, this())), true},
		{one(of("this", of("rel", of("", of("from", but))))), true},
		{one(of("but", this(), this())), true},
		{append(one(this()), one(but)...), true},
		{append(one(but), one(this())...), true},
		{[]api.Kind{{}, {Rules: []api.Rule{{}, {Expr: this()}, {Expr: of("or", this(), this(), this(), but)}, {}}}, {}}, true},
	} {
		if got := But(x.l); got != x.want {
			t.Errorf("%d: But is %v", i, got)
		}
	}
}

// spoil changes all that an expression shares, its spare room included.
func spoil(e api.Expr) {
	parts := e.Parts[:cap(e.Parts)]
	for i := range parts {
		spoil(parts[i])
		parts[i] = rel("spoilt")
	}
}

// DOC.md's rules of memory: what is found shares none with the rules, nor is anything of these changed, the spare room of lists included.
func TestFindIsNewMemory(t *testing.T) {
	made := func() []api.Kind {
		spare := append(make([]api.Expr, 0, 5), this(), of("but", this(), of("and", rel("b"), this())))
		return append(make([]api.Kind, 0, 3), one(api.Expr{Op: "or", Parts: spare})...)
	}
	l := made()
	e, _ := Find(l, "a", "b")
	spoil(e)
	if !sameRules(l, made()) {
		t.Errorf("what was found was changed, and the rules are %v", l)
	}
	e, _ = Find(l, "a", "b")
	Check(l)
	Show(l)
	But(l)
	if !sameRules(l, made()) || !slices.EqualFunc(l[0].Rules[0].Expr.Parts[:5], made()[0].Rules[0].Expr.Parts[:5], same) || l[:3][1].Name != "" || l[:3][2].Name != "" {
		t.Errorf("the rules are changed: %v", l)
	}
	spoil(l[0].Rules[0].Expr)
	if !same(e, made()[0].Rules[0].Expr) {
		t.Errorf("the rules were changed, and what was found is %v", e)
	}
}

// DOC.md's rules of memory: no two lists that are read share any, nor those of one text read twice.
func TestReadIsNewMemory(t *testing.T) {
	const s = "kind a\nb = (or this b (and this b b) (but b (or this this this)))\nc = (or this b)\nkind d\nb = (or this b)\n"
	other, _, _ := Read(s)
	read := func() []api.Kind {
		l, n, e := Read(s)
		if wantShow(l) != s || n != 0 || e != api.OK {
			t.Fatalf("%v is read, %d, %d", l, n, e)
		}
		return l
	}
	l := read()
	l[0].Rules = append(l[0].Rules, api.Rule{Relation: "x", Expr: this()})
	l[1].Rules = append(l[1].Rules, api.Rule{Relation: "y", Expr: this()})
	top := &l[0].Rules[0].Expr
	for _, p := range []*api.Expr{&top.Parts[3].Parts[1], &top.Parts[3], &top.Parts[2], top, &l[0].Rules[1].Expr, &l[1].Rules[0].Expr} {
		p.Parts = append(p.Parts, rel("c"))
	}
	const longer = "kind a\nb = (or this b (and this b b c) (but b (or this this this c) c) c)\nc = (or this b c)\nx = this\nkind d\nb = (or this b c)\ny = this\n"
	if got := wantShow(l); got != longer {
		t.Errorf("with more behind each list it is %q", got)
	}
	spoil(l[0].Rules[0].Expr)
	read()
	if wantShow(other) != s {
		t.Errorf("what was read ahead is %v", other)
	}
}

// few is names for mixed rules: of most of them rules may be.
var few = []string{"a", "b", "c", "d", "rel"}

// wrong is names of which rules may not be, and one that may be missing.
var wrong = []string{"this", "kind", "from", "or", "1", "A", "", "elsewhere"}

// mixer mixes rules: that go wrong, as often as told of a thousand, in their names, their forms and their depth.
type mixer struct {
	r                  *rand.Rand
	names, forms, deep int
}

func (m mixer) often(thousandths int) bool { return m.r.Intn(1000) < thousandths }

func (m mixer) name(l []string) string {
	if m.often(m.names) {
		return wrong[m.r.Intn(len(wrong))]
	}
	return l[m.r.Intn(len(l))]
}

// expr is an expression of at most so many deep, of the relations told.
func (m mixer) expr(deep int, relations []string) api.Expr {
	e := api.Expr{}
	switch op := m.r.Intn(6); {
	case op > 2 && deep > 1:
		e.Op = []string{"or", "and", "but"}[op-3]
		n := 2
		if op < 5 {
			n += m.r.Intn(3)
		}
		for range n {
			e.Parts = append(e.Parts, m.expr(deep-1, relations))
		}
	case op%3 == 0:
		e = this()
	case op%3 == 1:
		e = rel(m.name(relations))
	default:
		e = from(m.name(relations), m.name(few))
	}
	if m.often(m.forms) {
		switch m.r.Intn(4) {
		case 0:
			e.Op = []string{"this", "rel", "from", "or", "and", "but", "", "kind"}[m.r.Intn(8)]
		case 1:
			e.Name = []string{"", "a"}[m.r.Intn(2)]
		case 2:
			e.Of = []string{"", "a"}[m.r.Intn(2)]
		case 3:
			e.Parts = append(e.Parts, this())[m.r.Intn(2):]
		}
	}
	return e
}

func (m mixer) rules() []api.Kind {
	var l []api.Kind
	for _, i := range m.r.Perm(len(few))[:m.r.Intn(4)] {
		k := api.Kind{Name: m.name(few[i : i+1])}
		var relations []string
		for _, i := range m.r.Perm(len(few))[:1+m.r.Intn(4)] {
			relations = append(relations, few[i])
		}
		if m.often(m.names) {
			relations = append(relations, few[m.r.Intn(len(few))])
		}
		for i := range relations {
			deep := 4
			if m.often(m.deep) {
				deep = 9
			}
			k.Rules = append(k.Rules, api.Rule{Relation: m.name(relations[i : i+1]), Expr: m.expr(deep, relations)})
		}
		l = append(l, k)
	}
	return l
}

// P12.1 to P12.3: mixed rules against the chapter's words; those that may be are themselves again.
func TestMixedRules(t *testing.T) {
	seen := map[api.Errno]int{}
	r := rand.New(rand.NewSource(12))
	for range 20000 {
		m := mixer{r: r}
		switch r.Intn(5) {
		case 0:
			m.names = r.Intn(60)
		case 1:
			m.forms = r.Intn(60)
		case 2:
			m.deep = r.Intn(1000)
		case 3:
			m.names, m.forms, m.deep = r.Intn(60), r.Intn(60), r.Intn(300)
		}
		l := m.rules()
		seen[holdsRules(t, l)]++
		for _, kind := range few {
			relation := few[r.Intn(len(few))]
			want, ok := wantFind(l, kind, relation)
			if e, found := Find(l, kind, relation); !same(e, want) || found != ok {
				t.Fatalf("Find(%v, %q, %q) is %v, %v", l, kind, relation, e, found)
			}
		}
	}
	for _, e := range []api.Errno{api.OK, api.ErrRuleDeep, api.ErrRuleForm, api.ErrRuleName} {
		if seen[e] < 500 {
			t.Errorf("of so many mixed rules %d answered %d", seen[e], e)
		}
	}
}

// wantFind is what is found in rules.
func wantFind(l []api.Kind, kind, relation string) (api.Expr, bool) {
	for _, k := range l {
		if k.Name != kind {
			continue
		}
		for _, r := range k.Rules {
			if r.Relation == relation {
				return r.Expr, true
			}
		}
		return api.Expr{}, false
	}
	return api.Expr{}, false
}
