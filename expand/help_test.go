package expand

import (
	"slices"
	"strings"
	"testing"

	"lunette/api"
	"lunette/key"
	"lunette/rule"
	"lunette/tuple"
)

// rules is the rules of a text.
func rules(t *testing.T, text string) []api.Kind {
	t.Helper()
	l, line, e := rule.Read(text)
	if e != api.OK {
		t.Fatalf("%q are no rules: line %d, %d", text, line, e)
	}
	return l
}

// tuples is the tuples of texts.
func tuples(t *testing.T, texts ...string) []api.Tuple {
	t.Helper()
	var l []api.Tuple
	for _, s := range texts {
		q, e := tuple.Read(s)
		if e != api.OK {
			t.Fatalf("%q is no tuple's text", s)
		}
		l = append(l, q)
	}
	return l
}

// user is the user of a text.
func user(t *testing.T, text string) api.User {
	t.Helper()
	u, e := tuple.ReadUser(text)
	if e != api.OK {
		t.Fatalf("%q is no user's text", text)
	}
	return u
}

// users is the users of a text, with blanks between.
func users(t *testing.T, text string) []api.User {
	t.Helper()
	var l []api.User
	for _, s := range strings.Fields(text) {
		l = append(l, user(t, s))
	}
	return l
}

// usersText is users as a text, with blanks between.
func usersText(l []api.User) string {
	var texts []string
	for _, u := range l {
		s, _ := tuple.ShowUser(u)
		texts = append(texts, s)
	}
	return strings.Join(texts, " ")
}

// treeText is a tree as a text: its Op; in brackets its Users, then its Parts, if it has some.
func treeText(t api.Tree) string {
	s := t.Op
	if len(t.Users) > 0 {
		s += "[" + usersText(t.Users) + "]"
	}
	if len(t.Parts) > 0 {
		var parts []string
		for _, p := range t.Parts {
			parts = append(parts, treeText(p))
		}
		s += "(" + strings.Join(parts, " ") + ")"
	}
	return s
}

// tree is the tree of such a text.
func tree(t *testing.T, text string) api.Tree {
	t.Helper()
	x, rest := readTree(t, text)
	if rest != "" || treeText(x) != text {
		t.Fatalf("%q is no tree's text", text)
	}
	return x
}

// readTree is the tree that a text begins with, and what stands behind it.
func readTree(t *testing.T, text string) (api.Tree, string) {
	t.Helper()
	end := strings.IndexAny(text+" ", "[]() ")
	x, rest := api.Tree{Op: text[:end]}, text[end:]
	if strings.HasPrefix(rest, "[") {
		end = strings.Index(rest, "]")
		x.Users, rest = users(t, rest[1:end]), rest[end+1:]
	}
	if strings.HasPrefix(rest, "(") {
		for rest != "" && rest[0] != ')' {
			var p api.Tree
			p, rest = readTree(t, rest[1:])
			x.Parts = append(x.Parts, p)
		}
		rest = strings.TrimPrefix(rest, ")")
	}
	return x, rest
}

// A told is the chapter's words as another program: rules and tuples, gone over as lists, node by node, till there are too many.
type told struct {
	rules  []api.Kind
	tuples []api.Tuple
	// left is how many nodes more are made.
	left int
}

// expr is the expression of a relation of a kind; nil without a rule.
func (w *told) expr(kind, relation string) *api.Expr {
	for _, k := range w.rules {
		for _, r := range k.Rules {
			if k.Name == kind && r.Relation == relation {
				return &r.Expr
			}
		}
	}
	return nil
}

// named is the users that tuples name for a relation to an object, in order of their keys.
func (w *told) named(o api.User) []api.User {
	var l []api.User
	for _, x := range w.tuples {
		if x.Kind == o.Kind && x.ID == o.ID && x.Relation == o.Relation && !slices.Contains(l, x.User) {
			l = append(l, x.User)
		}
	}
	sortByKeys(l)
	return l
}

// sortByKeys brings users in order of their keys.
func sortByKeys(l []api.User) {
	slices.SortFunc(l, func(a, b api.User) int {
		return strings.Compare(key.Put(a.Kind, a.ID, a.Relation), key.Put(b.Kind, b.ID, b.Relation))
	})
}

// tree is the tree of a relation to an object.
func (w *told) tree(o api.User, depth int) api.Tree {
	e := w.expr(o.Kind, o.Relation)
	if e == nil || depth == 0 {
		w.left--
		return api.Tree{Op: "none"}
	}
	return w.of(e, o, depth)
}

// of is the tree of an expression.
func (w *told) of(e *api.Expr, o api.User, depth int) api.Tree {
	if w.left < 0 {
		return api.Tree{}
	}
	x := api.Tree{Op: "or"}
	if e.Op != "rel" {
		w.left--
	}
	switch e.Op {
	case "this":
		x.Users = w.named(o)
		for _, u := range x.Users {
			if u.Relation != "" {
				x.Parts = append(x.Parts, w.tree(u, depth-1))
			}
		}
	case "rel":
		o.Relation = e.Name
		x = w.tree(o, depth-1)
	case "from":
		o.Relation = e.Of
		for _, u := range w.named(o) {
			if u.Relation == "" {
				u.Relation = e.Name
				x.Parts = append(x.Parts, w.tree(u, depth-1))
			}
		}
	default:
		x.Op = e.Op
		for i := range e.Parts {
			x.Parts = append(x.Parts, w.of(&e.Parts[i], o, depth))
		}
	}
	return x
}

// asked is what Tree says, if the tree's size is at most so much; else false, unless the error is another one.
func (w *told) asked(o api.User, depth, budget, most int) (api.Tree, api.Errno, bool) {
	switch e := rule.Check(w.rules); {
	case depth < 0 || depth > 16:
		return api.Tree{}, 142, true
	case e != api.OK:
		return api.Tree{}, e, true
	case w.expr(o.Kind, o.Relation) == nil:
		return api.Tree{}, 140, true
	}
	w.left = most
	x := w.tree(o, depth)
	switch {
	case w.left < 0 && budget > most:
		return api.Tree{}, 0, false
	case w.left < 0 || wantSize(x) > budget:
		return api.Tree{}, 141, true
	}
	return x, api.OK, true
}

// wantSize is a tree's size.
func wantSize(t api.Tree) int {
	n := 1
	for _, p := range t.Parts {
		n += wantSize(p)
	}
	return n
}

// wantIn is whether a user is one of a tree's.
func wantIn(t api.Tree, u api.User) bool {
	in := func(p api.Tree) bool { return wantIn(p, u) }
	out := func(p api.Tree) bool { return !wantIn(p, u) }
	switch t.Op {
	case "or":
		return slices.Contains(t.Users, u) || slices.ContainsFunc(t.Parts, in)
	case "and":
		return len(t.Parts) > 0 && !slices.ContainsFunc(t.Parts, out)
	case "but":
		return len(t.Parts) == 2 && in(t.Parts[0]) && out(t.Parts[1])
	}
	return false
}

// wantNamed is all users that a tree's nodes name, as often as they do.
func wantNamed(t api.Tree) []api.User {
	l := slices.Clone(t.Users)
	for _, p := range t.Parts {
		l = append(l, wantNamed(p)...)
	}
	return l
}

// wantFlat is a tree's users, in order: user by user.
func wantFlat(t api.Tree) []api.User {
	l := wantNamed(t)
	sortByKeys(l)
	l = slices.Compact(l)
	return slices.DeleteFunc(l, func(u api.User) bool { return !wantIn(t, u) })
}

// wantWhy is the ways to a user.
func wantWhy(t api.Tree, u api.User) [][]int {
	var l [][]int
	if slices.Contains(t.Users, u) {
		l = append(l, nil)
	}
	for i, p := range t.Parts {
		for _, way := range wantWhy(p, u) {
			l = append(l, append([]int{i}, way...))
		}
	}
	return l
}

// sameWays is whether two lists of ways are the same.
func sameWays(a, b [][]int) bool {
	return slices.EqualFunc(a, b, func(x, y []int) bool { return slices.Equal(x, y) })
}
