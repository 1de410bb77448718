package check

import (
	"slices"

	"lunette/api"
	"lunette/facts"
	"lunette/rule"
)

// What an expression's Op may be.
const (
	opThis = "this"
	opRel  = "rel"
	opFrom = "from"
	opOr   = "or"
	opAnd  = "and"
	opBut  = "but"
)

// source is what rules and tuples tell; a relation to an object is told as a user is.
type source struct {
	// expr is who has a relation of a kind: without a rule, an expression without an Op.
	expr func(r relation) api.Expr
	// objects and groups are the users that tuples name for a relation to an object: without a relation, and with one.
	objects, groups func(o api.User) []api.User
	// names is whether a tuple names a user itself.
	names func(o, u api.User) bool
}

// relation is a relation of a kind.
type relation struct{ kind, name string }

// step is a relation to an object that is asked, and to what depth.
type step struct {
	object api.User
	depth  int
}

// said is what was answered to a step.
type said struct{ has bool }

// asking is a question that is being answered.
type asking struct {
	source source
	who    api.User
	budget int
	steps  map[step]said
	cut    bool
}

// newSource is what rules that may be and tuples tell.
func newSource(l []api.Kind, f *facts.Facts) source {
	users := func(right func(u api.User) bool) func(o api.User) []api.User {
		return kept(func(o api.User) []api.User {
			return slices.DeleteFunc(f.Users(o.Kind, o.ID, o.Relation), func(u api.User) bool { return !right(u) })
		})
	}
	return source{
		expr: kept(func(r relation) api.Expr {
			e, _ := rule.Find(l, r.kind, r.name)
			return e
		}),
		objects: users(func(u api.User) bool { return u.Relation == "" }),
		groups:  users(func(u api.User) bool { return u.Relation != "" }),
		names:   func(o, u api.User) bool { return f.Has(asTuple(o, u)) },
	}
}

// kept is a function that finds each thing once: the same is asked to several depths, and in several questions.
func kept[K comparable, V any](find func(k K) V) func(k K) V {
	found := map[K]V{}
	return func(k K) V {
		v, ok := found[k]
		if !ok {
			v = find(k)
			found[k] = v
		}
		return v
	}
}

// answer is the verdict of a question with which nothing is wrong.
func answer(s source, q api.Tuple, depth, budget int) (api.Verdict, api.Errno) {
	a := &asking{source: s, who: q.User, budget: max(budget, 0), steps: map[step]said{}}
	has := a.ask(api.User{Kind: q.Kind, ID: q.ID, Relation: q.Relation}, depth)
	if a.isOver() {
		return api.Verdict{}, api.ErrCheckBudget
	}
	return api.Verdict{Has: has, Cut: a.cut, Steps: len(a.steps)}, api.OK
}

// isOver is whether more steps were done than may be.
func (a *asking) isOver() bool {
	return len(a.steps) > a.budget
}

// ask is whether the user has a relation to an object, to a depth.
func (a *asking) ask(o api.User, depth int) bool {
	if depth == 0 {
		a.cut = true
		return false
	}
	at := step{object: o, depth: depth}
	before, ok := a.steps[at]
	if ok || a.isOver() { // behind the budget the answer is the error, whatever else is so
		return before.has
	}
	a.steps[at] = said{} // counts from now on, so that the budget holds for what it asks
	has := a.of(a.source.expr(relation{kind: o.Kind, name: o.Relation}), o, depth)
	a.steps[at] = said{has: has}
	return has
}

// of is whether an expression of a relation to an object has the user. Its parts, and the users that tuples name, are all asked: steps are counted, and what is left out is told, whatever the others say.
func (a *asking) of(e api.Expr, o api.User, depth int) bool {
	part := func(p api.Expr) bool { return a.of(p, o, depth) }
	switch e.Op {
	case opThis:
		among := count(a.source.groups(o), func(g api.User) bool { return a.ask(g, depth-1) })
		return among > 0 || a.source.names(o, a.who)
	case opRel:
		return a.ask(with(o, e.Name), depth-1)
	case opFrom:
		return count(a.source.objects(with(o, e.Of)), func(x api.User) bool { return a.ask(with(x, e.Name), depth-1) }) > 0
	case opOr:
		return count(e.Parts, part) > 0
	case opAnd:
		return count(e.Parts, part) == len(e.Parts)
	case opBut:
		first, second := part(e.Parts[0]), part(e.Parts[1])
		return first && !second
	}
	return false
}

// count is how many of a list are right; all of them are asked.
func count[T any](l []T, right func(x T) bool) int {
	n := 0
	for _, x := range l {
		if right(x) {
			n++
		}
	}
	return n
}

// with is another relation to an object.
func with(o api.User, relation string) api.User {
	return api.User{Kind: o.Kind, ID: o.ID, Relation: relation}
}
