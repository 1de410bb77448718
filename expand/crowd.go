package expand

import (
	"maps"
	"slices"
	"sort"

	"lunette/api"
	"lunette/key"
)

// crowd is users, each once. What two of them become is one of these, or a new one; the two aren't asked any more behind it: no crowd is gone over twice, so that a deep tree takes no longer than a flat one of as many users.
type crowd map[api.User]struct{}

// people is the users of a tree.
func people(t *api.Tree) crowd {
	part := func(i int) crowd { return people(&t.Parts[i]) }
	switch {
	case t.Op == opOr:
		some := newCrowd(t.Users)
		for i := range t.Parts {
			some = either(some, part(i))
		}
		return some
	case t.Op == opAnd && len(t.Parts) > 0:
		all := part(0)
		for i := range t.Parts[1:] {
			all = both(all, part(1+i))
		}
		return all
	case t.Op == opBut && len(t.Parts) == 2:
		return without(part(0), part(1))
	}
	return nil
}

// newCrowd is the users of a list.
func newCrowd(l []api.User) crowd {
	c := make(crowd, len(l))
	for _, u := range l {
		c[u] = struct{}{}
	}
	return c
}

// either is who is in one of two: the smaller one goes into the other one, so that nobody is moved often.
func either(a, b crowd) crowd {
	if len(a) > len(b) {
		a, b = b, a
	}
	for u := range a {
		b[u] = struct{}{}
	}
	return b
}

// both is who is in two. It is a new one, since a map that many were deleted from is as long to go over as before.
func both(a, b crowd) crowd {
	some := crowd{}
	for u := range a {
		if _, ok := b[u]; ok {
			some[u] = struct{}{}
		}
	}
	return some
}

// without is who is in one, and not in another one.
func without(a, b crowd) crowd {
	for u := range b {
		delete(a, u)
	}
	return a
}

// inOrder is all who are there, in their order.
func (c crowd) inOrder() []api.User {
	l := slices.Collect(maps.Keys(c))
	parts := func(u api.User) []string { return []string{u.Kind, u.ID, u.Relation} }
	sort.Slice(l, func(i, j int) bool { return key.Less(parts(l[i]), parts(l[j])) })
	return l
}
