package tree

import (
	"slices"

	"lunette/api"
	"lunette/node"
	"lunette/pager"
)

// limb is a child of a branch, with the key ahead of it (of the first one none), so that both come and go together.
type limb struct {
	key string
	no  int
}

// part is a node that fits onto a page, and the key that divides it from the one ahead.
type part struct {
	key  string
	node api.Node
}

// rise lets a leaf be at a way's end in place of the one that was there, and on the pages above it what follows from that; the root.
func rise(p *pager.Pager, root int, way []step, n api.Node) (int, api.Errno) {
	for i := len(way) - 1; i > 0; i-- {
		above := way[i-1]
		limbs, e := settle(p, above, way[i].node, n)
		if e != api.OK {
			return 0, e
		}
		n = branchOf(limbs)
		if slices.Equal(n.Kids, above.node.Kids) { // new pages were written anew: what stands above tells them already
			return root, api.OK
		}
	}
	return top(p, root, n)
}

// settle lays a node in place of the child that a step takes, which was another one; what the branch has then. One that takes less than it did goes onto one page with a neighbour, if both fit.
func settle(p *pager.Pager, above step, was, n api.Node) ([]limb, api.Errno) {
	limbs := limbsOf(above.node)
	from, to := above.at, above.at+1
	if node.Room(n) < node.Room(was) && !isEmpty(n) {
		n, from, to = joined(p, limbs, above.at, n)
	}
	mine, e := lay(p, limbs[from:to:to], n)
	if e != api.OK {
		return nil, e
	}
	return slices.Concat(limbs[:from:from], mine, limbs[to:]), api.OK
}

// joined is a node that is to be at one of some limbs, with a neighbour if they fit onto a page; and in place of which limbs it is to be, from where on and ahead of which. A neighbour that can't be read is left alone: it isn't needed.
func joined(p *pager.Pager, limbs []limb, at int, n api.Node) (api.Node, int, int) {
	nodeAt := func(i int) (api.Node, bool) {
		if i == at {
			return n, true
		}
		if i < 0 || i >= len(limbs) {
			return api.Node{}, false
		}
		other, e := read(p, limbs[i].no)
		return other, e == api.OK && other.Leaf == n.Leaf
	}
	for from := at - 1; from <= at; from++ {
		a, ok := nodeAt(from)
		b, okToo := nodeAt(from + 1)
		if !ok || !okToo {
			continue
		}
		if both := node.Join(a, limbs[from+1].key, b); fits(both) && node.Check(both) == api.OK {
			return both, from, from + 2
		}
	}
	return n, at, at + 1
}

// top lays a node in place of a root; the root of what there is then.
func top(p *pager.Pager, root int, n api.Node) (int, api.Errno) {
	if !n.Leaf && len(n.Kids) == 1 {
		if e := p.Drop(root); e != api.OK {
			return 0, e
		}
		return lowered(p, n.Kids[0])
	}
	limbs, e := lay(p, []limb{{no: root}}, n)
	if e != api.OK || len(limbs) == 0 {
		return 0, e
	}
	if len(limbs) == 1 {
		return limbs[0].no, api.OK
	}
	return write(p, 0, branchOf(limbs))
}

// lowered is the first page from one on, downwards, that may be a root: the branches without keys above it are dropped.
func lowered(p *pager.Pager, no int) (int, api.Errno) {
	for { // a page that comes again was dropped already, and can't be twice
		n, e := read(p, no)
		if e != api.OK {
			return 0, e
		}
		if n.Leaf || len(n.Keys) > 0 {
			return no, api.OK
		}
		if e := p.Drop(no); e != api.OK {
			return 0, e
		}
		no = n.Kids[0]
	}
}

// lay writes a node, onto as many pages as it takes, in place of some limbs; the limbs of that.
func lay(p *pager.Pager, old []limb, n api.Node) ([]limb, api.Errno) {
	parts := partsOf(old[0].key, n)
	for _, l := range old[min(len(parts), len(old)):] { // ahead of what is written: so that may be written onto them
		if e := p.Drop(l.no); e != api.OK {
			return nil, e
		}
	}
	var limbs []limb
	for i, x := range parts {
		no := 0
		if i < len(old) {
			no = old[i].no
		}
		no, e := write(p, no, x.node)
		if e != api.OK {
			return nil, e
		}
		limbs = append(limbs, limb{key: x.key, no: no})
	}
	return limbs, api.OK
}

// write writes a node in place of a page; of page 0 onto one more.
func write(p *pager.Pager, no int, n api.Node) (int, api.Errno) {
	cells, e := node.Cells(n)
	if e != api.OK {
		return 0, api.ErrTreeForm // a child had keys that its branch doesn't tell
	}
	kind := branchKind
	if n.Leaf {
		kind = leafKind
	}
	if no == 0 {
		return p.New(kind, 0, cells)
	}
	return p.Change(no, kind, 0, cells)
}

// partsOf is a node as parts, the first one with that key ahead: none of a node without anything.
func partsOf(key string, n api.Node) []part {
	if isEmpty(n) {
		return nil
	}
	if fits(n) {
		return []part{{key: key, node: n}}
	}
	a, middle, b := node.Split(n)
	left, right := partsOf(key, a), partsOf(middle, b)
	// Halves have as many keys, but may take unlike much: where one was split again, its piece may fit with the other half's.
	last, first := &left[len(left)-1], right[0]
	if both := node.Join(last.node, first.key, first.node); fits(both) {
		last.node = both
		right = right[1:]
	}
	return slices.Concat(left, right)
}

// fits is whether a node fits onto a page.
func fits(n api.Node) bool { return node.Room(n) <= api.PageRoom }

// isEmpty is whether a node has neither a key nor a child.
func isEmpty(n api.Node) bool { return len(n.Keys) == 0 && len(n.Kids) == 0 }

// limbsOf is a branch's limbs.
func limbsOf(n api.Node) []limb {
	var limbs []limb
	for i, kid := range n.Kids {
		l := limb{no: kid}
		if i > 0 {
			l.key = n.Keys[i-1]
		}
		limbs = append(limbs, l)
	}
	return limbs
}

// branchOf is the branch of limbs.
func branchOf(limbs []limb) api.Node {
	var n api.Node
	for i, l := range limbs {
		if i > 0 {
			n.Keys = append(n.Keys, l.key)
		}
		n.Kids = append(n.Kids, l.no)
	}
	return n
}
