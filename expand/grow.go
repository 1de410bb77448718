package expand

import (
	"math"
	"slices"

	"lunette/api"
	"lunette/facts"
	"lunette/rule"
)

// source is what rules and tuples tell; a relation to an object is told as a user is.
type source struct {
	// expr is who has a relation of a kind: without a rule, an expression without an Op.
	expr func(r relation) api.Expr
	// users are those that tuples name for a relation to an object; objects and groups those of them without a relation, and with one.
	users, objects, groups func(o api.User) []api.User
}

// relation is a relation of a kind.
type relation struct{ kind, name string }

// step is a relation to an object, and the depth to which it is looked.
type step struct {
	object api.User
	depth  int
}

// growing is a tree from which something is made, node by node: the tree itself, or its size.
type growing[T any] struct {
	source source
	// node is what is made of a node, and of its parts, which are asked by their numbers.
	node func(op string, users []api.User, parts int, part func(i int) T) T
	// again is what is made of a relation to an object, which may have been asked before.
	again func(at step, find func() T) T
}

// grow is the tree of a relation that has a rule, by rules that may be. It is counted first: a tree may have far more nodes than there are steps.
func grow(l []api.Kind, f *facts.Facts, object api.User, depth, budget int) (api.Tree, api.Errno) {
	s := newSource(l, f)
	budget = min(budget, math.MaxInt-1) // so that one more is a number, too
	if counting(s, budget).tree(object, depth) > budget {
		return api.Tree{}, api.ErrCheckBudget
	}
	return laying(s).tree(object, depth), api.OK
}

// newSource is what rules that may be and tuples tell.
func newSource(l []api.Kind, f *facts.Facts) source {
	users := kept(func(o api.User) []api.User { return f.Users(o.Kind, o.ID, o.Relation) })
	those := func(right func(u api.User) bool) func(o api.User) []api.User {
		return kept(func(o api.User) []api.User {
			return slices.DeleteFunc(slices.Clone(users(o)), func(u api.User) bool { return !right(u) })
		})
	}
	return source{
		expr: kept(func(r relation) api.Expr {
			e, _ := rule.Find(l, r.kind, r.name)
			return e
		}),
		users:   users,
		objects: those(func(u api.User) bool { return u.Relation == "" }),
		groups:  those(func(u api.User) bool { return u.Relation != "" }),
	}
}

// kept is a function that finds each thing once: the same is asked to several depths.
func kept[K comparable, V any](find func(k K) V) func(k K) V {
	found := map[K]V{}
	return func(k K) V {
		v, ok := found[k]
		if !ok {
			v = find(k)
			found[k] = v
		}
		return v
	}
}

// counting makes a tree's size; of one above the budget, one more than that.
func counting(s source, budget int) *growing[int] {
	sizes := map[step]int{}
	return &growing[int]{
		source: s,
		node: func(_ string, _ []api.User, parts int, part func(i int) int) int {
			size := 1
			for i := 0; i < parts && size <= budget; i++ {
				size += min(part(i), budget-size+1) // the sum of all may be no number any more
			}
			return size
		},
		again: func(at step, find func() int) int {
			size, ok := sizes[at]
			if !ok {
				size = find()
				sizes[at] = size
			}
			return size
		},
	}
}

// laying makes the tree itself, each part anew.
func laying(s source) *growing[api.Tree] {
	return &growing[api.Tree]{
		source: s,
		node: func(op string, users []api.User, parts int, part func(i int) api.Tree) api.Tree {
			t := api.Tree{Op: op, Users: slices.Clone(users)}
			for i := range parts {
				t.Parts = append(t.Parts, part(i))
			}
			return t
		},
		again: func(_ step, find func() api.Tree) api.Tree { return find() },
	}
}

// tree is what is made of a relation to an object, to a depth.
func (g *growing[T]) tree(o api.User, depth int) T {
	e := g.source.expr(relation{kind: o.Kind, name: o.Relation})
	if depth == 0 || e.Op == "" {
		return g.node(opNone, nil, 0, nil)
	}
	return g.again(step{object: o, depth: depth}, func() T { return g.of(e, o, depth) })
}

// of is what is made of an expression of a relation to an object.
func (g *growing[T]) of(e api.Expr, o api.User, depth int) T {
	switch e.Op {
	case opThis:
		groups := g.source.groups(o)
		return g.node(opOr, g.source.users(o), len(groups), func(i int) T { return g.tree(groups[i], depth-1) })
	case opRel:
		return g.tree(with(o, e.Name), depth-1)
	case opFrom:
		objects := g.source.objects(with(o, e.Of))
		return g.node(opOr, nil, len(objects), func(i int) T { return g.tree(with(objects[i], e.Name), depth-1) })
	}
	return g.node(e.Op, nil, len(e.Parts), func(i int) T { return g.of(e.Parts[i], o, depth) })
}

// with is another relation to an object.
func with(o api.User, relation string) api.User {
	return api.User{Kind: o.Kind, ID: o.ID, Relation: relation}
}
