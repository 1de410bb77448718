package check

import (
	"math"
	"math/rand"
	"slices"
	"testing"

	"lunette/api"
	"lunette/facts"
	"lunette/rule"
)

// mixed makes rules, tuples and questions of few names, so that these meet often.
type mixed struct {
	*rand.Rand
	kinds, relations, ids []string
	// but is whether rules may take somebody away.
	but bool
}

// newMixed is one that has at most so many names.
func newMixed(r *rand.Rand) mixed {
	m := mixed{Rand: r, but: r.Intn(2) == 0}
	m.kinds = []string{"a", "b", "c"}[:1+r.Intn(3)]
	m.relations = []string{"r", "s", "t", "u"}[:1+r.Intn(4)]
	m.ids = []string{"1", "2", "3", "4", "5"}[:1+r.Intn(5)]
	return m
}

// of is one of a list.
func (m mixed) of(l []string) string { return l[m.Intn(len(l))] }

// expr is an expression that is at most so deep.
func (m mixed) expr(deep int) api.Expr {
	ops := []string{"this", "this", "this", "rel", "from"}
	if deep > 1 {
		ops = append(ops, "or", "or", "and")
	}
	if deep > 1 && m.but {
		ops = append(ops, "but", "but")
	}
	e := api.Expr{Op: m.of(ops)}
	parts := 0
	switch e.Op {
	case "rel":
		e.Name = m.of(m.relations)
	case "from":
		e.Of, e.Name = m.of(m.relations), m.of(m.relations)
	case "or", "and":
		parts = 2 + m.Intn(2)
	case "but":
		parts = 2
	}
	for range parts {
		e.Parts = append(e.Parts, m.expr(deep-1))
	}
	return e
}

// rules is rules that may be; now and then a kind has none.
func (m mixed) rules() []api.Kind {
	var l []api.Kind
	for _, kind := range m.kinds {
		k := api.Kind{Name: kind}
		if m.Intn(8) > 0 {
			for _, r := range m.relations {
				k.Rules = append(k.Rules, api.Rule{Relation: r, Expr: m.expr(3)})
			}
		}
		if m.Intn(8) > 0 {
			l = append(l, k)
		}
	}
	return l
}

// user is a user; now and then it is of a kind, or has a relation, that no rule tells.
func (m mixed) user() api.User {
	u := api.User{Kind: m.of(m.kinds), ID: m.of(m.ids)}
	switch m.Intn(12) {
	case 0:
		u.Kind = "user"
	case 1:
		u.Relation = "none"
	case 2, 3, 4, 5:
		u.Relation = m.of(m.relations)
	}
	return u
}

// tuple is a tuple that may be.
func (m mixed) tuple() api.Tuple {
	return api.Tuple{Kind: m.of(m.kinds), ID: m.of(m.ids), Relation: m.of(m.relations), User: m.user()}
}

// question is what is asked of tuples: most often what may be, and often somebody that one names.
func (m mixed) question(l []api.Tuple) api.Tuple {
	q := m.tuple()
	if len(l) > 0 && m.Intn(3) > 0 {
		q.User = l[m.Intn(len(l))].User
	}
	if m.Intn(20) == 0 {
		*[]*string{&q.Kind, &q.ID, &q.Relation, &q.User.Kind, &q.User.ID, &q.User.Relation}[m.Intn(6)] = m.of([]string{"", "A", "none"})
	}
	return q
}

// depth is how deep is asked: most often as deep as may be.
func (m mixed) depth() int {
	switch m.Intn(10) {
	case 0:
		return m.Intn(22) - 3
	case 1, 2, 3:
		return 16
	}
	return m.Intn(8)
}

// budget is what may be done.
func (m mixed) budget() int {
	if m.Intn(4) == 0 {
		return m.Intn(40) - 2
	}
	return math.MaxInt
}

// P14.1, P14.2: rules and tuples of all kinds, against another program.
func TestMixedQuestions(t *testing.T) {
	r := rand.New(rand.NewSource(14))
	has, cut, over := 0, 0, 0
	for range 3000 {
		m := newMixed(r)
		w := told{rules: m.rules()}
		for range r.Intn(25) {
			w.tuples = append(w.tuples, m.tuple())
		}
		if r.Intn(20) == 0 {
			w.rules = append(w.rules, api.Kind{Name: m.of([]string{"a", "z", "", "kind"}), Rules: []api.Rule{{Relation: "r", Expr: m.expr(2)}}})
		}
		f := facts.New(w.tuples)
		w.tuples = f.All()
		for range 10 {
			q, depth, budget := m.question(w.tuples), m.depth(), m.budget()
			want, err := w.verdict(q, depth, budget)
			v, e := Has(w.rules, f, q, depth, budget)
			if v != want || e != err {
				t.Fatalf("Has(%v, %v, %v, %d, %d) is %v, %d, not %v, %d", w.rules, w.tuples, q, depth, budget, v, e, want, err)
			}
			if v.Has {
				has++
			}
			if v.Cut {
				cut++
			}
			if e == api.ErrCheckBudget {
				over++
			}
		}
		holdsLists(t, m, w, f)
	}
	if has < 2000 || cut < 5000 || over < 500 {
		t.Errorf("too few of a sort: %d, %d, %d", has, cut, over)
	}
}

// holdsLists holds Subjects and Objects against another program.
func holdsLists(t *testing.T, m mixed, w told, f *facts.Facts) {
	t.Helper()
	q, depth, budget := m.question(w.tuples), m.depth(), m.budget()
	o := api.User{Kind: q.Kind, ID: q.ID, Relation: q.Relation}
	wantUsers, err := w.subjects(o, depth, budget)
	people, e := Subjects(w.rules, f, o, depth, budget)
	if !slices.Equal(people, wantUsers) || e != err || len(people) == 0 && people != nil {
		t.Fatalf("Subjects(%v, %v, %v, %d, %d) is %v, %d, not %v, %d", w.rules, w.tuples, o, depth, budget, people, e, wantUsers, err)
	}
	wantNames, err := w.objects(q.Kind, q.Relation, q.User, depth, budget)
	names, e := Objects(w.rules, f, q.Kind, q.Relation, q.User, depth, budget)
	if !slices.Equal(names, wantNames) || e != err || len(names) == 0 && names != nil {
		t.Fatalf("Objects(%v, %v, %v, %d, %d) is %v, %d, not %v, %d", w.rules, w.tuples, q, depth, budget, names, e, wantNames, err)
	}
}

// P14.3: without a but, deeper has no fewer; where nothing is left out, deeper is the same.
func TestDeeper(t *testing.T) {
	r := rand.New(rand.NewSource(143))
	more, fewer, same := 0, 0, 0
	for range 10000 {
		m := newMixed(r)
		l := m.rules()
		f := facts.New(nil)
		for range r.Intn(25) {
			f.Put(m.tuple())
		}
		q := m.question(f.All())
		before, e := Has(l, f, q, 0, 0)
		if e != api.OK {
			continue
		}
		if before != (api.Verdict{Cut: true}) {
			t.Fatalf("Has to the depth 0 is %v", before)
		}
		for depth := 1; depth <= api.MaxDepth; depth++ {
			v, e := Has(l, f, q, depth, math.MaxInt)
			switch {
			case e != api.OK:
				t.Fatalf("Has(%v, %v, %v, %d) is %d", l, f.All(), q, depth, e)
			case !before.Cut && v != before:
				t.Fatalf("Has(%v, %v, %v, %d) is %v, and nothing was left out ahead of it", l, f.All(), q, depth, v)
			case !rule.But(l) && before.Has && !v.Has:
				t.Fatalf("Has(%v, %v, %v, %d) is false, and was true", l, f.All(), q, depth)
			case !before.Cut:
				same++
			case v.Has && !before.Has:
				more++
			case before.Has && !v.Has:
				fewer++
			}
			before = v
		}
	}
	if more < 1000 || fewer < 100 || same < 5000 {
		t.Errorf("too few of a sort: %d, %d, %d", more, fewer, same)
	}
}
