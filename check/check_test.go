package check

import (
	"math"
	"slices"
	"strconv"
	"strings"
	"testing"

	"lunette/api"
	"lunette/facts"
	"lunette/rule"
)

// An asked is a question, and its verdict.
type asked struct {
	question string
	depth    int
	want     api.Verdict
}

// Verdicts written out by hand: rules, tuples, and what is asked of them.
var written = []struct {
	name, rules string
	tuples      []string
	asked       []asked
}{
	{
		"the example",
		"kind doc\nviewer = (or this (from parent viewer))\nparent = this\n",
		[]string{"doc:a#parent@doc:b", "doc:b#viewer@user:x"},
		[]asked{
			{"doc:a#viewer@user:x", 0, api.Verdict{Cut: true}},
			{"doc:a#viewer@user:x", 1, api.Verdict{Cut: true, Steps: 1}},
			{"doc:a#viewer@user:x", 2, api.Verdict{Has: true, Steps: 2}},
			{"doc:a#viewer@user:x", 16, api.Verdict{Has: true, Steps: 2}},
			{"doc:b#viewer@user:x", 1, api.Verdict{Has: true, Steps: 1}},
			{"doc:a#viewer@user:y", 2, api.Verdict{Steps: 2}},
			{"doc:a#parent@doc:b", 1, api.Verdict{Has: true, Steps: 1}},
			{"doc:z#viewer@user:x", 1, api.Verdict{Steps: 1}},
			{"doc:z#viewer@user:x", 0, api.Verdict{Cut: true}},
		},
	},
	{
		"this: a user itself, with a relation or without one; and those who have what it tells",
		"kind group\nmember = this\nkind doc\nviewer = this\n",
		[]string{
			"doc:a#viewer@group:g#member", "group:g#member@user:x", "doc:b#viewer@doc:a", "doc:b#viewer@group:g",
			"doc:c#viewer@group:g#boss", "group:g#boss@user:x", "doc:d#viewer@user:x#member",
		},
		[]asked{
			{"doc:a#viewer@user:x", 1, api.Verdict{Cut: true, Steps: 1}},
			{"doc:a#viewer@user:x", 2, api.Verdict{Has: true, Steps: 2}},
			{"doc:a#viewer@group:g#member", 1, api.Verdict{Has: true, Cut: true, Steps: 1}},
			{"doc:a#viewer@group:g#member", 2, api.Verdict{Has: true, Steps: 2}},
			{"doc:a#viewer@group:g", 2, api.Verdict{Steps: 2}},
			{"doc:a#viewer@group:g#boss", 2, api.Verdict{Steps: 2}},
			{"doc:b#viewer@doc:a", 1, api.Verdict{Has: true, Steps: 1}},
			{"doc:b#viewer@group:g", 1, api.Verdict{Has: true, Steps: 1}},
			{"doc:b#viewer@group:g#member", 9, api.Verdict{Steps: 1}},
			{"doc:b#viewer@doc:a#viewer", 9, api.Verdict{Steps: 1}},
			{"doc:b#viewer@user:x", 9, api.Verdict{Steps: 1}},
			// There is no rule for boss, nor a kind user: it is asked, and nobody has it.
			{"doc:c#viewer@user:x", 1, api.Verdict{Cut: true, Steps: 1}},
			{"doc:c#viewer@user:x", 2, api.Verdict{Steps: 2}},
			{"doc:c#viewer@group:g#boss", 2, api.Verdict{Has: true, Steps: 2}},
			{"doc:d#viewer@user:x", 2, api.Verdict{Steps: 2}},
		},
	},
	{
		"groups in themselves, and in one another",
		"kind group\nmember = this\n",
		[]string{
			"group:self#member@group:self#member", "group:a#member@group:b#member", "group:b#member@group:a#member",
			"group:b#member@user:x",
		},
		[]asked{
			{"group:self#member@group:self#member", 3, api.Verdict{Has: true, Cut: true, Steps: 3}},
			{"group:self#member@user:x", 16, api.Verdict{Cut: true, Steps: 16}},
			{"group:a#member@user:x", 1, api.Verdict{Cut: true, Steps: 1}},
			{"group:a#member@user:x", 2, api.Verdict{Has: true, Cut: true, Steps: 2}},
			{"group:a#member@user:x", 16, api.Verdict{Has: true, Cut: true, Steps: 16}},
		},
	},
	{
		"rel: another relation to the same object; tuples are looked at by this alone",
		"kind doc\na = b\nb = c\nc = this\nd = (or this this)\n",
		[]string{"doc:x#a@user:a", "doc:x#b@user:b", "doc:x#c@user:c", "doc:x#d@user:d", "doc:y#c@user:y"},
		[]asked{
			{"doc:x#a@user:c", 0, api.Verdict{Cut: true}},
			{"doc:x#a@user:c", 1, api.Verdict{Cut: true, Steps: 1}},
			{"doc:x#a@user:c", 2, api.Verdict{Cut: true, Steps: 2}},
			{"doc:x#a@user:c", 3, api.Verdict{Has: true, Steps: 3}},
			{"doc:x#a@user:a", 3, api.Verdict{Steps: 3}},
			{"doc:x#a@user:b", 3, api.Verdict{Steps: 3}},
			{"doc:x#a@user:y", 3, api.Verdict{Steps: 3}},
			{"doc:x#b@user:c", 2, api.Verdict{Has: true, Steps: 2}},
			{"doc:x#d@user:d", 1, api.Verdict{Has: true, Steps: 1}},
			{"doc:x#d@user:c", 1, api.Verdict{Steps: 1}},
		},
	},
	{
		"from: objects that tuples name, whoever has Of by its rule; none with a relation; of whatever kind they are",
		"kind doc\nparent = other\nother = this\nviewer = (from parent viewer)\nkind dir\nviewer = this\nkind none\n",
		[]string{
			"doc:a#other@dir:d", "doc:b#parent@dir:d", "doc:c#parent@dir:d#viewer", "doc:e#parent@none:n", "doc:f#parent@user:u",
			"doc:g#parent@doc:b", "dir:d#viewer@user:x", "none:n#viewer@user:x", "user:u#viewer@user:x",
			"doc:h#parent@dir:d", "doc:h#parent@doc:h",
		},
		[]asked{
			{"doc:a#viewer@user:x", 9, api.Verdict{Steps: 1}},
			{"doc:b#viewer@user:x", 1, api.Verdict{Cut: true, Steps: 1}},
			{"doc:b#viewer@user:x", 2, api.Verdict{Has: true, Steps: 2}},
			{"doc:b#viewer@dir:d", 9, api.Verdict{Steps: 2}},
			{"doc:c#viewer@user:x", 9, api.Verdict{Steps: 1}},
			{"doc:c#viewer@dir:d#viewer", 1, api.Verdict{Steps: 1}},
			{"doc:e#viewer@user:x", 9, api.Verdict{Steps: 2}},
			{"doc:f#viewer@user:x", 9, api.Verdict{Steps: 2}},
			{"doc:f#viewer@user:x", 1, api.Verdict{Cut: true, Steps: 1}},
			{"doc:g#viewer@user:x", 2, api.Verdict{Cut: true, Steps: 2}},
			{"doc:g#viewer@user:x", 3, api.Verdict{Has: true, Steps: 3}},
			{"doc:h#viewer@user:x", 2, api.Verdict{Has: true, Cut: true, Steps: 3}},
			{"doc:b#parent@dir:d", 9, api.Verdict{Steps: 2}},
			{"doc:a#parent@dir:d", 9, api.Verdict{Has: true, Steps: 2}},
		},
	},
	{
		"or and and: all parts are asked, whatever the others say",
		"kind doc\na = this\nb = this\nc = d\nd = this\n" +
			"one = (or a b c)\nall = (and a b c)\nfirst = (or this a b)\nnever = (and this a b)\n",
		[]string{"doc:x#a@user:a", "doc:x#b@user:b", "doc:x#d@user:d", "doc:y#a@user:u", "doc:y#b@user:u", "doc:y#d@user:u", "doc:x#first@user:f"},
		[]asked{
			{"doc:x#one@user:a", 2, api.Verdict{Has: true, Cut: true, Steps: 4}},
			{"doc:x#one@user:b", 2, api.Verdict{Has: true, Cut: true, Steps: 4}},
			{"doc:x#one@user:d", 2, api.Verdict{Cut: true, Steps: 4}},
			{"doc:x#one@user:d", 3, api.Verdict{Has: true, Steps: 5}},
			{"doc:x#one@user:z", 3, api.Verdict{Steps: 5}},
			{"doc:x#all@user:a", 3, api.Verdict{Steps: 5}},
			{"doc:x#all@user:z", 2, api.Verdict{Cut: true, Steps: 4}},
			{"doc:y#all@user:u", 3, api.Verdict{Has: true, Steps: 5}},
			{"doc:y#all@user:u", 2, api.Verdict{Cut: true, Steps: 4}},
			{"doc:x#first@user:f", 2, api.Verdict{Has: true, Steps: 3}},
			{"doc:x#first@user:f", 1, api.Verdict{Has: true, Cut: true, Steps: 1}},
			{"doc:x#never@user:f", 2, api.Verdict{Steps: 3}},
			{"doc:y#never@user:u", 2, api.Verdict{Steps: 3}},
		},
	},
	{
		"but: the first one, and not the second one, which is asked to its depth",
		"kind doc\nowner = this\nbanned = bad\nbad = this\nviewer = (but this banned)\nturned = (but banned this)\n" +
			"twice = (but (but this bad) (but owner bad))\n",
		[]string{
			"doc:x#viewer@user:a", "doc:x#viewer@user:b", "doc:x#bad@user:b", "doc:x#bad@user:c", "doc:x#turned@user:b",
			"doc:x#twice@user:a", "doc:x#twice@user:b", "doc:x#twice@user:d", "doc:x#owner@user:d", "doc:x#owner@user:e",
		},
		[]asked{
			{"doc:x#viewer@user:a", 3, api.Verdict{Has: true, Steps: 3}},
			{"doc:x#viewer@user:b", 3, api.Verdict{Steps: 3}},
			{"doc:x#viewer@user:b", 2, api.Verdict{Has: true, Cut: true, Steps: 2}},
			{"doc:x#viewer@user:c", 3, api.Verdict{Steps: 3}},
			{"doc:x#viewer@user:c", 1, api.Verdict{Cut: true, Steps: 1}},
			{"doc:x#viewer@user:z", 3, api.Verdict{Steps: 3}},
			{"doc:x#turned@user:b", 3, api.Verdict{Steps: 3}},
			{"doc:x#turned@user:c", 3, api.Verdict{Has: true, Steps: 3}},
			{"doc:x#turned@user:c", 2, api.Verdict{Cut: true, Steps: 2}},
			{"doc:x#twice@user:a", 2, api.Verdict{Has: true, Steps: 3}},
			{"doc:x#twice@user:b", 2, api.Verdict{Steps: 3}},
			{"doc:x#twice@user:d", 2, api.Verdict{Steps: 3}},
			{"doc:x#twice@user:e", 2, api.Verdict{Steps: 3}},
			{"doc:x#twice@user:d", 1, api.Verdict{Has: true, Cut: true, Steps: 1}},
		},
	},
	{
		"parts of parts are asked to the same depth",
		"kind doc\na = (or (and (or (and (or (and this this) b) this) b) this) b)\nb = (but (or this (and this c)) (but c c))\nc = (or c this)\n",
		[]string{"doc:x#a@user:a", "doc:x#b@user:b", "doc:x#b@user:c", "doc:x#c@user:c"},
		[]asked{
			{"doc:x#a@user:a", 1, api.Verdict{Has: true, Cut: true, Steps: 1}},
			{"doc:x#b@user:b", 1, api.Verdict{Has: true, Cut: true, Steps: 1}},
			{"doc:x#b@user:c", 2, api.Verdict{Has: true, Cut: true, Steps: 2}},
			{"doc:x#a@user:b", 2, api.Verdict{Has: true, Cut: true, Steps: 2}},
			{"doc:x#a@user:c", 4, api.Verdict{Has: true, Cut: true, Steps: 4}},
			{"doc:x#a@user:z", 2, api.Verdict{Cut: true, Steps: 2}},
		},
	},
	{
		"what is asked on two ways is one step to one depth, and two to two",
		"kind doc\nparent = this\nviewer = (or this (from parent viewer))\n",
		[]string{
			"doc:a#parent@doc:b", "doc:a#parent@doc:c", "doc:b#parent@doc:d", "doc:c#parent@doc:d", "doc:d#viewer@user:x",
			"doc:p#parent@doc:q", "doc:p#parent@doc:r", "doc:q#parent@doc:r", "doc:r#viewer@user:x",
		},
		[]asked{
			{"doc:a#viewer@user:x", 2, api.Verdict{Cut: true, Steps: 3}},
			{"doc:a#viewer@user:x", 3, api.Verdict{Has: true, Steps: 4}},
			{"doc:p#viewer@user:x", 2, api.Verdict{Has: true, Cut: true, Steps: 3}},
			{"doc:p#viewer@user:x", 3, api.Verdict{Has: true, Steps: 4}},
			{"doc:p#viewer@user:x", 16, api.Verdict{Has: true, Steps: 4}},
		},
	},
	{
		"kinds, names and relations that begin alike are told apart",
		"kind a\nb = this\nbc = this\nkind ab\nb = this\nc = this\nbc = (from b bc)\nkind abc\nc = (or b this)\nb = this\n",
		[]string{"a:b#b@a:bc#b", "a:bc#b@user:x", "ab:c#c@user:y", "ab:c#b@a:bc", "a:bc#bc@ab:c#b", "a:b#bc@user:z", "abc:b#c@user:x", "abc:bc#b@user:x"},
		[]asked{
			{"a:b#b@user:x", 2, api.Verdict{Has: true, Steps: 2}},
			{"a:b#bc@user:x", 9, api.Verdict{Steps: 1}},
			{"ab:c#b@user:y", 9, api.Verdict{Steps: 1}},
			{"ab:c#bc@a:bc", 9, api.Verdict{Has: true, Steps: 3}},
			{"ab:c#bc@ab:c#b", 9, api.Verdict{Has: true, Steps: 3}},
			{"abc:b#c@user:x", 2, api.Verdict{Has: true, Steps: 2}},
			{"abc:bc#c@user:x", 2, api.Verdict{Has: true, Steps: 2}},
			{"abc:b#b@user:x", 2, api.Verdict{Steps: 1}},
		},
	},
}

// P14.1: verdicts, and how many steps they take, written out by hand.
func TestWrittenVerdicts(t *testing.T) {
	for _, w := range written {
		l, f := rules(t, w.rules), facts.New(tuples(t, w.tuples...))
		for _, x := range w.asked {
			q := read(t, x.question)
			for _, budget := range []int{math.MinInt, -1, 0, 1, x.want.Steps - 1, x.want.Steps, x.want.Steps + 1, math.MaxInt} {
				want, err := x.want, api.OK
				if x.want.Steps > max(budget, 0) {
					want, err = api.Verdict{}, api.ErrCheckBudget
				}
				if v, e := Has(l, f, q, x.depth, budget); v != want || e != err {
					t.Errorf("%s: Has(%s, %d, %d) is %v, %d, not %v, %d", w.name, x.question, x.depth, budget, v, e, want, err)
				}
			}
		}
	}
}

// A few rules and tuples, of which each error is asked.
const (
	fewRules = "kind user\nkind doc\nviewer = (or this (from parent viewer))\nparent = this\nkind group\nmember = this\n"
	fewText  = "doc:a#viewer@user:x"
)

// wrongRules is rules that may not be, by what is told of them.
func wrongRules(t *testing.T) map[api.Errno][]api.Kind {
	l := rules(t, fewRules)
	deep := append(slices.Clone(l), make([]api.Kind, 64)...)
	form := append(slices.Clone(l), api.Kind{Name: "doc", Rules: []api.Rule{{Relation: "a"}}})
	name := append(slices.Clone(l), api.Kind{Name: "doc"})
	return map[api.Errno][]api.Kind{api.ErrRuleDeep: deep, api.ErrRuleForm: form, api.ErrRuleName: name}
}

// P14.1: what a question's names may not be.
func TestNamesOfQuestions(t *testing.T) {
	l, f := rules(t, fewRules), facts.New(tuples(t, fewText))
	long := strings.Repeat("a", 17)
	good := read(t, "doc:a#viewer@group:g#member")
	for _, bad := range []string{"", "A", "a:b", "a#b", "a b", "\x00", "\xff", long, strings.Repeat("a", 1<<20)} {
		for i := range 6 {
			q := good
			*[]*string{&q.Kind, &q.ID, &q.Relation, &q.User.Kind, &q.User.ID, &q.User.Relation}[i] = bad
			want := api.ErrTupleName
			if i == 5 && bad == "" { // a user may be without a relation
				want = api.OK
			}
			if _, e := Has(l, f, q, 1, 9); e != want {
				t.Errorf("Has of part %d as %.20q is %d, not %d", i, bad, e, want)
			}
		}
	}
}

// P14.1: relations that have no rule.
func TestRelationsWithoutRules(t *testing.T) {
	l := rules(t, fewRules)
	f := facts.New(tuples(t, fewText, "doc:a#owner@user:x", "user:a#viewer@user:x", "dir:a#viewer@user:x", "group:a#viewer@user:x"))
	for _, s := range []string{"doc:a#owner@user:x", "doc:a#member@user:x", "user:a#viewer@user:x", "dir:a#viewer@user:x", "group:a#viewer@user:x", "doc:a#this@user:x", "doc:a#or@user:x"} {
		for _, depth := range []int{0, 1, 16} {
			if v, e := Has(l, f, read(t, s), depth, 9); v != (api.Verdict{}) || e != api.ErrCheckRule {
				t.Errorf("Has(%s, %d) is %v, %d", s, depth, v, e)
			}
		}
	}
	if v, e := Has(nil, f, read(t, fewText), 1, 9); v != (api.Verdict{}) || e != api.ErrCheckRule {
		t.Errorf("Has without rules is %v, %d", v, e)
	}
	if v, e := Has([]api.Kind{}, facts.New(nil), read(t, fewText), 1, 9); v != (api.Verdict{}) || e != api.ErrCheckRule {
		t.Errorf("Has without all is %v, %d", v, e)
	}
}

// P14.1, P14.2: of several errors the one that is named first, of each of the three calls.
func TestErrorsInOrder(t *testing.T) {
	f := facts.New(tuples(t, fewText, "doc:a#parent@doc:a"))
	wrong := wrongRules(t)
	good := rules(t, fewRules)
	for _, depth := range []int{math.MinInt, -1, 0, 1, 16, 17, math.MaxInt} {
		for _, ruleError := range []api.Errno{api.OK, api.ErrRuleDeep, api.ErrRuleForm, api.ErrRuleName} {
			for bits := range 8 {
				l, q, budget := good, read(t, fewText), 1000
				if ruleError != api.OK {
					l = wrong[ruleError]
				}
				want := api.OK
				if bits&4 != 0 {
					budget = 0
					if depth > 0 {
						want = api.ErrCheckBudget
					}
				}
				if bits&2 != 0 {
					q.Relation, want = "none", api.ErrCheckRule
				}
				if bits&1 != 0 {
					q.User.ID, want = "", api.ErrTupleName
				}
				if ruleError != api.OK {
					want = ruleError
				}
				if depth < 0 || depth > api.MaxDepth {
					want = api.ErrCheckDeep
				}
				holdsError(t, l, f, q, depth, budget, want)
			}
		}
	}
}

// holdsError is whether calls answer an error, and nothing else with it.
func holdsError(t *testing.T, l []api.Kind, f *facts.Facts, q api.Tuple, depth, budget int, want api.Errno) {
	t.Helper()
	v, e := Has(l, f, q, depth, budget)
	if e != want || e != api.OK && v != (api.Verdict{}) {
		t.Errorf("Has(%v, %d, %d) is %v, %d, not %d", q, depth, budget, v, e, want)
	}
	names, e := Objects(l, f, q.Kind, q.Relation, q.User, depth, budget)
	if e != want || e != api.OK && names != nil {
		t.Errorf("Objects of %v, %d, %d is %q, %d, not %d", q, depth, budget, names, e, want)
	}
	if q.User.ID == "" { // the users of Subjects may be; what may not be is the object
		q.ID = ""
	}
	people, e := Subjects(l, f, api.User{Kind: q.Kind, ID: q.ID, Relation: q.Relation}, depth, budget)
	if e != want || e != api.OK && people != nil {
		t.Errorf("Subjects of %v, %d, %d is %v, %d, not %d", q, depth, budget, people, e, want)
	}
}

// wholeRules and whole are what Subjects and Objects are asked of.
const wholeRules = "kind group\nmember = this\nkind doc\nparent = this\nowner = this\nbanned = this\nviewer = (but (or this owner (from parent viewer)) banned)\n"

var whole = []string{
	"doc:root#viewer@group:all#member", "doc:root#viewer@user:zoe", "doc:a#parent@doc:root", "doc:b#parent@doc:a", "doc:b#banned@user:ann",
	"doc:a#owner@user:bob", "group:all#member@group:eng#member", "group:all#member@user:b-", "group:eng#member@user:ann", "group:eng#member@user:b",
	"doc:c#viewer@doc:d", "doc:c#viewer@user:ann#friend", "doc:e#owner@doc:f#viewer", "doc:f#viewer@user:ann", "user:u#friend@user:ann",
}

// P14.2: all users that are named, in their order, that have a relation; none that isn't named.
func TestSubjects(t *testing.T) {
	l, f := rules(t, wholeRules), facts.New(tuples(t, whole...))
	for _, x := range []struct {
		object string
		depth  int
		want   []string
	}{
		{"doc:root#viewer", 1, []string{"group:all#member", "user:zoe"}},
		{"doc:root#viewer", 2, []string{"group:all#member", "group:eng#member", "user:b-", "user:zoe"}},
		{"doc:root#viewer", 3, []string{"group:all#member", "group:eng#member", "user:ann", "user:b", "user:b-", "user:zoe"}},
		{"doc:b#viewer", 16, []string{"group:all#member", "group:eng#member", "user:b", "user:b-", "user:bob", "user:zoe"}},
		{"doc:a#viewer", 16, []string{"group:all#member", "group:eng#member", "user:ann", "user:b", "user:b-", "user:bob", "user:zoe"}},
		{"doc:a#viewer", 2, []string{"group:all#member", "user:bob", "user:zoe"}},
		{"doc:c#viewer", 16, []string{"doc:d", "user:ann#friend"}},
		{"doc:e#viewer", 16, []string{"doc:f#viewer", "user:ann"}},
		{"doc:a#parent", 1, []string{"doc:root"}},
		{"group:eng#member", 1, []string{"user:ann", "user:b"}},
		{"doc:root#viewer", 0, nil},
		{"doc:none#viewer", 16, nil},
		{"doc:root#owner", 16, nil},
	} {
		got, e := Subjects(l, f, user(t, x.object), x.depth, 100)
		if want := users(t, x.want...); !slices.Equal(got, want) || e != api.OK || want == nil && got != nil {
			t.Errorf("Subjects(%s, %d) is %v, %d, not %v", x.object, x.depth, got, e, want)
		}
	}
}

// P14.2: all names of a kind, rising, whose objects a user has a relation to.
func TestObjects(t *testing.T) {
	l, f := rules(t, wholeRules), facts.New(tuples(t, whole...))
	for _, x := range []struct {
		kind, relation, user string
		depth                int
		want                 string
	}{
		{"doc", "viewer", "user:ann", 16, "a e f root"},
		{"doc", "viewer", "user:ann", 3, "e f root"},
		{"doc", "viewer", "user:ann", 2, "f"},
		{"doc", "viewer", "user:b", 16, "a b root"},
		{"doc", "viewer", "user:bob", 2, "a"},
		{"doc", "viewer", "user:bob", 3, "a b"},
		{"doc", "viewer", "doc:d", 1, "c"},
		{"doc", "viewer", "user:ann#friend", 1, "c"},
		{"doc", "viewer", "group:all#member", 3, "a b root"},
		{"doc", "banned", "user:ann", 1, "b"},
		{"doc", "parent", "doc:a", 1, "b"},
		{"group", "member", "user:ann", 2, "all eng"},
		{"doc", "viewer", "user:none", 16, ""},
		{"doc", "viewer", "user:ann", 0, ""},
	} {
		got, e := Objects(l, f, x.kind, x.relation, user(t, x.user), x.depth, 100)
		if strings.Join(got, " ") != x.want || e != api.OK || x.want == "" && got != nil {
			t.Errorf("Objects(%s, %s, %s, %d) is %q, %d, not %s", x.kind, x.relation, x.user, x.depth, got, e, x.want)
		}
	}
}

// P14.2: where nobody is named there is nothing, whatever is wrong.
func TestNothingNamed(t *testing.T) {
	l := rules(t, fewRules)
	some := facts.New(tuples(t, fewText))
	for _, bad := range []struct {
		l             []api.Kind
		depth, budget int
	}{{l, 99, 9}, {wrongRules(t)[api.ErrRuleForm], 1, 9}, {l, -1, -1}, {nil, 1, 0}, {l, 1, 0}} {
		if got, e := Subjects(bad.l, facts.New(nil), api.User{}, bad.depth, bad.budget); got != nil || e != api.OK {
			t.Errorf("Subjects of nobody is %v, %d", got, e)
		}
		for _, kind := range []string{"dir", "", "Dir", "viewer", strings.Repeat("d", 1<<20)} {
			for _, set := range []*facts.Facts{some, facts.New(nil)} {
				if got, e := Objects(bad.l, set, kind, "", api.User{}, bad.depth, bad.budget); got != nil || e != api.OK {
					t.Errorf("Objects of %.20q is %q, %d", kind, got, e)
				}
			}
		}
	}
}

// P14.2: a name that users alone tell is asked for, so that what is wrong with that is told.
func TestNamesThatUsersTell(t *testing.T) {
	l, f := rules(t, fewRules+"kind dir\nviewer = owner\nowner = this\n"), facts.New(tuples(t, fewText, "doc:b#viewer@dir:d"))
	x := user(t, "user:x")
	for _, y := range []struct {
		kind, relation string
		budget         int
		want           api.Errno
	}{
		{"user", "viewer", 9, api.ErrCheckRule},
		{"dir", "member", 9, api.ErrCheckRule},
		{"dir", "viewer", 1, api.ErrCheckBudget},
		{"dir", "viewer", 2, api.OK},
		{"dir", "owner", 0, api.ErrCheckBudget},
		{"dir", "owner", 1, api.OK},
	} {
		if got, e := Objects(l, f, y.kind, y.relation, x, 9, y.budget); got != nil || e != y.want {
			t.Errorf("Objects of %s, %s, %d is %q, %d, not %d", y.kind, y.relation, y.budget, got, e, y.want)
		}
	}
}

// P14.2: each question has the budget for itself; with one that is over it nothing is answered, wherever it stands.
func TestBudgetOfEach(t *testing.T) {
	l := rules(t, fewRules)
	for _, far := range []string{"0", "m", "z"} {
		f := facts.New(tuples(t, "doc:a#viewer@user:x", "doc:n#viewer@user:x", "doc:y#viewer@user:x", "doc:"+far+"#viewer@user:x", "doc:"+far+"#parent@doc:a", "doc:"+far+"#parent@doc:n"))
		x := user(t, "user:x")
		if got, e := Objects(l, f, "doc", "viewer", x, 9, 2); got != nil || e != api.ErrCheckBudget {
			t.Errorf("Objects is %q, %d", got, e)
		}
		want := []string{"a", "n", "y", far}
		slices.Sort(want)
		if got, e := Objects(l, f, "doc", "viewer", x, 9, 3); !slices.Equal(got, want) || e != api.OK {
			t.Errorf("Objects is %q, %d, not %q", got, e, want)
		}
		object := api.User{Kind: "doc", ID: far, Relation: "viewer"}
		if got, e := Subjects(l, f, object, 9, 2); got != nil || e != api.ErrCheckBudget {
			t.Errorf("Subjects is %v, %d", got, e)
		}
		if got, e := Subjects(l, f, object, 9, 3); !slices.Equal(got, []api.User{x}) || e != api.OK {
			t.Errorf("Subjects is %v, %d", got, e)
		}
	}
}

// What is handed in stays as it is; nothing is known of what was asked before; what is answered is new memory.
func TestNothingIsKept(t *testing.T) {
	l, f := rules(t, wholeRules), facts.New(tuples(t, whole...))
	text, _ := rule.Show(l)
	all := f.All()
	people, _ := Subjects(l, f, user(t, "doc:a#viewer"), 16, 100)
	names, _ := Objects(l, f, "doc", "viewer", user(t, "user:ann"), 16, 100)
	wantPeople, wantNames := slices.Clone(people), slices.Clone(names)
	clear(people[:cap(people)])
	clear(names[:cap(names)])
	if again, e := rule.Show(l); again != text || e != api.OK || !slices.Equal(f.All(), all) {
		t.Errorf("what is handed in is %q, %d, %v", again, e, f.All())
	}
	again, _ := Subjects(l, f, user(t, "doc:a#viewer"), 16, 100)
	if !slices.Equal(again, wantPeople) {
		t.Errorf("Subjects is %v, not %v", again, wantPeople)
	}
	ids, _ := Objects(l, f, "doc", "viewer", user(t, "user:ann"), 16, 100)
	if !slices.Equal(ids, wantNames) {
		t.Errorf("Objects is %q, not %q", ids, wantNames)
	}
	q := read(t, "doc:a#viewer@user:ann")
	for range 3 {
		if v, e := Has(l, f, q, 16, 100); !v.Has || e != api.OK {
			t.Errorf("Has is %v, %d", v, e)
		}
		f.Drop(read(t, "group:eng#member@user:ann"))
		if v, e := Has(l, f, q, 16, 100); v.Has || e != api.OK {
			t.Errorf("Has is %v, %d, behind a drop", v, e)
		}
		f.Put(read(t, "group:eng#member@user:ann"))
		if v, e := Has(rules(t, "kind doc\nviewer = this\n"), f, q, 16, 100); v.Has || e != api.OK {
			t.Errorf("Has is %v, %d, by other rules", v, e)
		}
	}
}

// P14.1: what is asked on very many ways is asked once.
func TestManyWays(t *testing.T) {
	const groups = 40
	var texts []string
	for i := range groups {
		for j := range groups {
			texts = append(texts, "group:"+strconv.Itoa(i)+"#member@group:"+strconv.Itoa(j)+"#member")
		}
	}
	l := rules(t, "kind group\nmember = (or "+strings.Repeat("this ", 62)+"this)\n")
	f := facts.New(tuples(t, texts...))
	const steps = 1 + 15*groups
	for _, x := range []struct {
		user string
		want api.Verdict
	}{{"user:x", api.Verdict{Cut: true, Steps: steps}}, {"group:0#member", api.Verdict{Has: true, Cut: true, Steps: steps}}} {
		q := read(t, "group:0#member@"+x.user)
		if v, e := Has(l, f, q, 16, steps); v != x.want || e != api.OK {
			t.Errorf("Has is %v, %d, not %v", v, e, x.want)
		}
		if v, e := Has(l, f, q, 16, steps-1); v != (api.Verdict{}) || e != api.ErrCheckBudget {
			t.Errorf("Has is %v, %d", v, e)
		}
	}
}

// P14.1: a question that is over its budget goes no further.
func TestNoMoreThanTheBudget(t *testing.T) {
	const groups = 40
	l, f := rules(t, "kind group\nmember = (or this lead)\nlead = (and this member)\n"), facts.New(nil)
	for i := range groups * groups {
		f.Put(read(t, "group:"+strconv.Itoa(i/groups)+"#member@group:"+strconv.Itoa(i%groups)+"#member"))
	}
	for budget := range 100 {
		a := &asking{source: newSource(l, f), who: user(t, "user:x"), budget: budget, steps: map[step]said{}}
		a.ask(user(t, "group:0#member"), 16)
		if !a.isOver() || len(a.steps) != budget+1 {
			t.Errorf("%d steps by a budget of %d", len(a.steps), budget)
		}
	}
}

// P14.2: very many users of one object, and very many objects of one user.
func TestManyUsersAndObjects(t *testing.T) {
	const many = 1 << 14
	l := rules(t, fewRules)
	f := facts.New(nil)
	for i := range many {
		id := strconv.Itoa(i)
		f.Put(api.Tuple{Kind: "doc", ID: "root", Relation: "viewer", User: api.User{Kind: "user", ID: id}})
		f.Put(api.Tuple{Kind: "doc", ID: id, Relation: "parent", User: api.User{Kind: "doc", ID: "root"}})
	}
	people, e := Subjects(l, f, user(t, "doc:7#viewer"), 16, 2)
	if len(people) != many || e != api.OK || people[1] != (api.User{Kind: "user", ID: "1"}) {
		t.Errorf("Subjects is %d users, %d", len(people), e)
	}
	names, e := Objects(l, f, "doc", "viewer", user(t, "user:7"), 16, 2)
	if len(names) != many+1 || e != api.OK || names[many] != "root" {
		t.Errorf("Objects is %d names, %d", len(names), e)
	}
	if names, e = Objects(l, f, "doc", "viewer", user(t, "user:7"), 1, 1); len(names) != 1 || e != api.OK || names[0] != "root" {
		t.Errorf("Objects is %q, %d", names, e)
	}
}
