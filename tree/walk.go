package tree

import (
	"slices"

	"lunette/api"
	"lunette/node"
	"lunette/pager"
)

const (
	leafKind   = 1
	branchKind = 2
	// maxDepth is how many pages deep a tree is that Pages and Check take for one.
	maxDepth = 40
)

// place is where a walk comes to: a page, how deep it stands (the root at 1), and which keys may be below it: from one on, and, if they end, below another one.
type place struct {
	no, depth int
	from, to  string
	ends      bool
}

// has is whether a key may be below a place.
func (at place) has(key string) bool {
	return key >= at.from && (!at.ends || key < at.to)
}

// step is a page on the way down to a key: what stands on it, and which child the way takes.
type step struct {
	node api.Node
	at   int
}

// read is the node that stands on a page.
func read(p *pager.Pager, no int) (api.Node, api.Errno) {
	q, e := p.Read(no)
	if e != api.OK {
		return api.Node{}, e
	}
	if q.Link != 0 || q.Kind != leafKind && q.Kind != branchKind {
		return api.Node{}, api.ErrTreeForm
	}
	n, e := node.Of(q.Kind == leafKind, q.Cells)
	if e != api.OK {
		return api.Node{}, api.ErrTreeForm
	}
	return n, api.OK
}

// walk comes to a root, and then to the places that visit tells of each page, in order, one's own ahead of the next one's, till visit says that it is enough.
func walk(p *pager.Pager, root int, visit func(at place, n api.Node) (next []place, enough bool)) api.Errno {
	var todo []place
	if root != 0 {
		todo = append(todo, place{no: root, depth: 1})
	}
	for count := 0; len(todo) > 0; count++ {
		last := len(todo) - 1
		at := todo[last]
		n, e := read(p, at.no)
		if e != api.OK {
			return e
		}
		if count == api.MaxPages { // no disk has more pages: one came again, and might for ever
			return api.ErrTreeForm
		}
		next, enough := visit(at, n)
		if enough {
			return api.OK
		}
		slices.Reverse(next) // the first one is taken from the end
		todo = append(todo[:last], next...)
	}
	return api.OK
}

// below is the places of a node's children; of a leaf none.
func below(at place, n api.Node) []place {
	var next []place
	for i, kid := range n.Kids {
		k := place{no: kid, depth: at.depth + 1, from: at.from, to: at.to, ends: at.ends}
		if i > 0 {
			k.from = n.Keys[i-1]
		}
		if i < len(n.Keys) {
			k.to, k.ends = n.Keys[i], true
		}
		next = append(next, k)
	}
	return next
}

// wayTo is the way from a root down to the leaf that may have a key; of the empty tree there is none.
func wayTo(p *pager.Pager, root int, key string) ([]step, api.Errno) {
	var way []step
	e := walk(p, root, func(at place, n api.Node) ([]place, bool) {
		i, _ := node.Find(n, key)
		way = append(way, step{node: n, at: i})
		if n.Leaf {
			return nil, true
		}
		return below(at, n)[i : i+1 : i+1], false
	})
	return way, e
}

// leafOf is the leaf at a way's end; of no way one without keys.
func leafOf(way []step) api.Node {
	if len(way) == 0 {
		return api.Node{Leaf: true}
	}
	return way[len(way)-1].node
}

// stretch is which of a leaf's keys, or of a branch's children, have what is from one key on, below another one: the first one, and the end.
func stretch(n api.Node, from, to string) (int, int) {
	first, _ := node.Find(n, from)
	end, found := node.Find(n, to)
	switch {
	case to == "":
		end = max(len(n.Keys), len(n.Kids))
	case !n.Leaf && !found:
		end++ // the child that may have the end has keys below it, too, unless it begins with it
	}
	return min(first, end), end
}

// all is the pages from a root on, child by child, as long as each one is right, and no deeper than it may be.
func all(p *pager.Pager, root int, right func(at place, n api.Node) bool) ([]int, api.Errno) {
	var pages []int
	ok := true
	e := walk(p, root, func(at place, n api.Node) ([]place, bool) {
		ok = at.depth <= maxDepth && right(at, n)
		pages = append(pages, at.no)
		return below(at, n), !ok
	})
	if e == api.OK && !ok {
		e = api.ErrTreeForm
	}
	if e != api.OK {
		return nil, e
	}
	return pages, api.OK
}

// isRight is whether a node may stand at a place of a tree whose leaves are so deep.
func isRight(at place, n api.Node, leaves int) bool {
	isRoot := at.depth == 1
	if n.Leaf && (at.depth != leaves || len(n.Keys) == 0 && !isRoot) {
		return false
	}
	if !n.Leaf && len(n.Keys) == 0 && isRoot {
		return false
	}
	return !slices.ContainsFunc(n.Keys, func(key string) bool { return !at.has(key) })
}
