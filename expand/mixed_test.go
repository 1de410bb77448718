package expand

import (
	"math"
	"math/rand"
	"slices"
	"testing"

	"lunette/api"
	"lunette/check"
	"lunette/facts"
)

// mixed makes rules, tuples, objects and trees of few names, so that these meet often.
type mixed struct {
	*rand.Rand
	kinds, relations, ids []string
}

// newMixed is one that has at most so many names.
func newMixed(r *rand.Rand) mixed {
	return mixed{
		Rand:      r,
		kinds:     []string{"a", "b", "c"}[:1+r.Intn(3)],
		relations: []string{"r", "s", "t", "u"}[:1+r.Intn(4)],
		ids:       []string{"1", "2", "2-", "20", "3"}[:1+r.Intn(5)],
	}
}

// of is one of a list.
func (m mixed) of(l []string) string { return l[m.Intn(len(l))] }

// expr is an expression that is at most so deep.
func (m mixed) expr(deep int) api.Expr {
	ops := []string{"this", "this", "this", "rel", "from"}
	if deep > 1 {
		ops = append(ops, "or", "and", "but")
	}
	e := api.Expr{Op: m.of(ops)}
	parts := 0
	switch e.Op {
	case "rel":
		e.Name = m.of(m.relations)
	case "from":
		e.Of, e.Name = m.of(m.relations), m.of(m.relations)
	case "or", "and":
		parts = 2 + m.Intn(2)
	case "but":
		parts = 2
	}
	for range parts {
		e.Parts = append(e.Parts, m.expr(deep-1))
	}
	return e
}

// rules is rules that may be; now and then a kind has none.
func (m mixed) rules() []api.Kind {
	var l []api.Kind
	for _, kind := range m.kinds {
		k := api.Kind{Name: kind}
		if m.Intn(8) > 0 {
			for _, r := range m.relations {
				k.Rules = append(k.Rules, api.Rule{Relation: r, Expr: m.expr(3)})
			}
		}
		if m.Intn(8) > 0 {
			l = append(l, k)
		}
	}
	return l
}

// user is a user; now and then it is of a kind, or has a relation, that no rule tells.
func (m mixed) user() api.User {
	u := api.User{Kind: m.of(m.kinds), ID: m.of(m.ids)}
	switch m.Intn(12) {
	case 0:
		u.Kind = "user"
	case 1:
		u.Relation = "none"
	case 2, 3, 4, 5:
		u.Relation = m.of(m.relations)
	}
	return u
}

// tuple is a tuple that may be.
func (m mixed) tuple() api.Tuple {
	return api.Tuple{Kind: m.of(m.kinds), ID: m.of(m.ids), Relation: m.of(m.relations), User: m.user()}
}

// object is a relation to an object; now and then one that may not be, or has no rule.
func (m mixed) object() api.User {
	o := api.User{Kind: m.of(m.kinds), ID: m.of(m.ids), Relation: m.of(m.relations)}
	if m.Intn(20) == 0 {
		*[]*string{&o.Kind, &o.ID, &o.Relation}[m.Intn(3)] = m.of([]string{"", "A", "none"})
	}
	return o
}

// depth is how deep is looked: most often as deep as may be.
func (m mixed) depth() int {
	switch m.Intn(10) {
	case 0:
		return m.Intn(22) - 3
	case 1, 2:
		return 16
	}
	return m.Intn(8)
}

// tree is a tree that is at most so deep, of all Ops, and others.
func (m mixed) tree(deep int) api.Tree {
	t := api.Tree{Op: m.of([]string{"or", "or", "or", "or", "and", "and", "but", "but", "none", "this", ""})}
	for m.Intn(3) > 0 {
		t.Users = append(t.Users, m.user())
	}
	parts := m.Intn(4)
	if t.Op == "but" && m.Intn(6) > 0 {
		parts = 2
	}
	if deep > 1 {
		for range parts {
			t.Parts = append(t.Parts, m.tree(deep-1))
		}
	}
	return t
}

// world is rules, and tuples; now and then the rules may not be.
func (m mixed) world() *told {
	w := &told{rules: m.rules()}
	for range m.Intn(25) {
		w.tuples = append(w.tuples, m.tuple())
	}
	if m.Intn(20) == 0 {
		w.rules = append(w.rules, api.Kind{Name: m.of([]string{"a", "z", "", "kind"}), Rules: []api.Rule{{Relation: "r", Expr: m.expr(2)}}})
	}
	return w
}

// P15.1: rules and tuples of all kinds, against another program.
func TestMixedTrees(t *testing.T) {
	r := rand.New(rand.NewSource(15))
	whole, over, wrong := 0, 0, 0
	for range 1500 {
		m := newMixed(r)
		w := m.world()
		f := facts.New(w.tuples)
		for range 8 {
			o, depth := m.object(), m.depth()
			for _, budget := range []int{math.MaxInt, r.Intn(9) - 2, r.Intn(3000)} {
				want, err, known := w.asked(o, depth, budget, 3000)
				if !known {
					continue
				}
				x, e := Tree(w.rules, f, o, depth, budget)
				if treeText(x) != treeText(want) || e != err || e != api.OK && !isZero(x) {
					t.Fatalf("Tree(%v, %v, %v, %d, %d) is %s, %d, not %s, %d", w.rules, w.tuples, o, depth, budget, treeText(x), e, treeText(want), err)
				}
				switch e {
				case api.OK:
					whole++
				case api.ErrCheckBudget:
					over++
				default:
					wrong++
				}
			}
		}
	}
	if whole < 15000 || over < 4000 || wrong < 5000 {
		t.Errorf("too few of a sort: %d, %d, %d", whole, over, wrong)
	}
}

// P15.2: trees of all kinds, against another program.
func TestMixedUsers(t *testing.T) {
	r := rand.New(rand.NewSource(152))
	some, ways := 0, 0
	for range 20000 {
		m := newMixed(r)
		x := m.tree(1 + r.Intn(5))
		want := wantFlat(x)
		if got := Flat(x); !slices.Equal(got, want) || len(got) == 0 && got != nil {
			t.Fatalf("Flat(%s) is %s, not %s", treeText(x), usersText(got), usersText(want))
		}
		if n := Size(x); n != wantSize(x) {
			t.Fatalf("Size(%s) is %d, not %d", treeText(x), n, wantSize(x))
		}
		u := m.user()
		if got := Why(x, u); !sameWays(got, wantWhy(x, u)) || len(got) == 0 && got != nil {
			t.Fatalf("Why(%s, %v) is %v, not %v", treeText(x), u, got, wantWhy(x, u))
		}
		if len(want) > 1 {
			some++
		}
		if len(Why(x, u)) > 1 {
			ways++
		}
	}
	if some < 5000 || ways < 2000 {
		t.Errorf("too few of a sort: %d, %d", some, ways)
	}
}

// P15.3: the users of an object's tree are those named ones that have the relation, to that depth.
func TestTreesAndChecks(t *testing.T) {
	r := rand.New(rand.NewSource(153))
	held, cut, none := 0, 0, 0
	for range 8000 {
		m := newMixed(r)
		w := m.world()
		f := facts.New(w.tuples)
		o, depth := m.object(), m.depth()
		x, e := Tree(w.rules, f, o, depth, 20000)
		if e == api.ErrCheckBudget {
			continue
		}
		var want []api.User
		err := e // of nobody: what is wrong is told by Tree alone
		for _, u := range f.People() {
			q := api.Tuple{Kind: o.Kind, ID: o.ID, Relation: o.Relation, User: u}
			v, e := check.Has(w.rules, f, q, depth, math.MaxInt)
			if e == api.ErrTupleName { // of the object: nothing is asked of Tree's but its relation
				v, e = api.Verdict{}, err
			}
			if v.Has {
				want = append(want, u)
			}
			if v.Cut {
				cut++
			}
			err = e
		}
		if got := Flat(x); e != err || !slices.Equal(got, want) {
			t.Fatalf("Tree(%v, %v, %v, %d) is %s, %d, whose users are not %s, %d", w.rules, w.tuples, o, depth, treeText(x), e, usersText(want), err)
		}
		if len(want) > 1 {
			held++
		} else {
			none++
		}
	}
	if held < 800 || cut < 5000 || none < 500 {
		t.Errorf("too few of a sort: %d, %d, %d", held, cut, none)
	}
}
