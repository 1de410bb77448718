package check

import (
	"slices"
	"testing"

	"lunette/api"
	"lunette/facts"
	"lunette/rule"
	"lunette/tuple"
)

// rules is the rules of a text.
func rules(t *testing.T, text string) []api.Kind {
	t.Helper()
	l, line, e := rule.Read(text)
	if e != api.OK {
		t.Fatalf("%q are no rules: line %d, %d", text, line, e)
	}
	return l
}

// read is the tuple of a text.
func read(t *testing.T, text string) api.Tuple {
	t.Helper()
	q, e := tuple.Read(text)
	if e != api.OK {
		t.Fatalf("%q is no tuple's text", text)
	}
	return q
}

// tuples is the tuples of texts.
func tuples(t *testing.T, texts ...string) []api.Tuple {
	t.Helper()
	var l []api.Tuple
	for _, s := range texts {
		l = append(l, read(t, s))
	}
	return l
}

// user is the user of a text.
func user(t *testing.T, text string) api.User {
	t.Helper()
	u, e := tuple.ReadUser(text)
	if e != api.OK {
		t.Fatalf("%q is no user's text", text)
	}
	return u
}

// users is the users of texts.
func users(t *testing.T, texts ...string) []api.User {
	t.Helper()
	var l []api.User
	for _, s := range texts {
		l = append(l, user(t, s))
	}
	return l
}

// A told is the chapter's words as another program: rules and tuples, gone over as lists whenever something is asked of them.
type told struct {
	rules  []api.Kind
	tuples []api.Tuple
}

// expr is the expression of a relation of a kind; nil without a rule.
func (w told) expr(kind, relation string) *api.Expr {
	for _, k := range w.rules {
		for _, r := range k.Rules {
			if k.Name == kind && r.Relation == relation {
				return &r.Expr
			}
		}
	}
	return nil
}

// named is the users that tuples name for a relation to an object.
func (w told) named(o api.User) []api.User {
	var l []api.User
	for _, x := range w.tuples {
		if (api.User{Kind: x.Kind, ID: x.ID, Relation: x.Relation}) == o {
			l = append(l, x.User)
		}
	}
	return l
}

// asks is what an expression of an object's relation asks to the next depth.
func (w told) asks(e *api.Expr, o api.User) []api.User {
	var l []api.User
	switch {
	case e == nil:
	case e.Op == "this":
		for _, u := range w.named(o) {
			if u.Relation != "" {
				l = append(l, u)
			}
		}
	case e.Op == "rel":
		o.Relation = e.Name
		l = append(l, o)
	case e.Op == "from":
		o.Relation = e.Of
		for _, u := range w.named(o) {
			if u.Relation == "" {
				u.Relation = e.Name
				l = append(l, u)
			}
		}
	default:
		for i := range e.Parts {
			l = append(l, w.asks(&e.Parts[i], o)...)
		}
	}
	return l
}

// has is whether an expression of an object's relation has a user, where it is known who has what is asked to the next depth.
func (w told) has(e *api.Expr, o, u api.User, known map[api.User]bool) bool {
	part := func(i int) bool { return w.has(&e.Parts[i], o, u, known) }
	switch {
	case e == nil:
		return false
	case e.Op == "but":
		return part(0) && !part(1)
	case e.Op == "or" || e.Op == "and":
		for i := range e.Parts {
			if part(i) == (e.Op == "or") {
				return e.Op == "or"
			}
		}
		return e.Op == "and"
	}
	return e.Op == "this" && slices.Contains(w.named(o), u) ||
		slices.ContainsFunc(w.asks(e, o), func(x api.User) bool { return known[x] })
}

// verdict is what Has says of a question, depth by depth: first all that is asked, down to 0, then who has it, up again.
func (w told) verdict(q api.Tuple, depth, budget int) (api.Verdict, api.Errno) {
	switch e := rule.Check(w.rules); {
	case depth < 0 || depth > 16:
		return api.Verdict{}, 142
	case e != api.OK:
		return api.Verdict{}, e
	case tuple.Check(q) != api.OK:
		return api.Verdict{}, 111
	case w.expr(q.Kind, q.Relation) == nil:
		return api.Verdict{}, 140
	}
	root := api.User{Kind: q.Kind, ID: q.ID, Relation: q.Relation}
	levels := make([]map[api.User]bool, depth+1)
	levels[depth] = map[api.User]bool{root: false}
	v := api.Verdict{}
	for d := depth; d > 0; d-- {
		v.Steps += len(levels[d])
		levels[d-1] = map[api.User]bool{}
		for o := range levels[d] {
			for _, x := range w.asks(w.expr(o.Kind, o.Relation), o) {
				levels[d-1][x] = false
			}
		}
	}
	for d := 1; d <= depth; d++ {
		for o := range levels[d] {
			levels[d][o] = w.has(w.expr(o.Kind, o.Relation), o, q.User, levels[d-1])
		}
	}
	if v.Steps > max(budget, 0) {
		return api.Verdict{}, 141
	}
	v.Has, v.Cut = levels[depth][root], len(levels[0]) > 0
	return v, api.OK
}

// subjects is what Subjects says.
func (w told) subjects(o api.User, depth, budget int) ([]api.User, api.Errno) {
	var l []api.User
	for _, u := range facts.New(w.tuples).People() {
		v, e := w.verdict(api.Tuple{Kind: o.Kind, ID: o.ID, Relation: o.Relation, User: u}, depth, budget)
		if e != api.OK {
			return nil, e
		}
		if v.Has {
			l = append(l, u)
		}
	}
	return l, api.OK
}

// objects is what Objects says.
func (w told) objects(kind, relation string, u api.User, depth, budget int) ([]string, api.Errno) {
	var l []string
	for _, id := range facts.New(w.tuples).Objects(kind) {
		v, e := w.verdict(api.Tuple{Kind: kind, ID: id, Relation: relation, User: u}, depth, budget)
		if e != api.OK {
			return nil, e
		}
		if v.Has {
			l = append(l, id)
		}
	}
	return l, api.OK
}
