package store

import (
	"errors"

	"lunette/api"
	"lunette/pager"
	"lunette/tree"
)

// isLong is whether a change tells more than a tree may have.
func isLong(c api.Change) bool {
	return len(c.Key) > api.MaxKey || !c.Drop && len(c.Value) > api.MaxValue
}

// write makes a version more, or leaves all as it is.
func (s *Store) write(l []api.Change) error {
	s.pager.Oldest(s.oldest())
	err := apply(s.pager, l, func(error) bool { return false })
	if err == nil {
		return nil
	}
	s.pager.Abort()
	return errors.Join(err, s.rehearse(l))
}

// rehearse tells what else is wrong with changes that were stopped: a dead disk, or a page that is turned, may hide an error that is named ahead of it.
func (s *Store) rehearse(l []api.Change) error {
	d := s.disk.Copy()
	d.Crash(nil) // so that it lives, with what was told last
	p, e := pager.Open(d)
	if e != api.OK || p.Super() != s.pager.Super() { // a super, or the chain, is turned: then no more is known
		return nil
	}
	p.Oldest(s.oldest())
	var bad error
	err := apply(p, l, func(err error) bool {
		if !errors.Is(err, errBad) {
			return false
		}
		bad = err
		return true
	})
	return errors.Join(bad, err)
}

// apply does changes to what a pager told last, in order, and tells what comes of that. A change's error ends it, unless that passes: then the change is left out.
func apply(p *pager.Pager, l []api.Change, passes func(error) bool) error {
	root := p.Super().Root
	for _, c := range l {
		other, e := changed(p, root, c)
		err := faultOf(e)
		if err == nil {
			root = other
		} else if !passes(err) {
			return err
		}
	}
	return faultOf(p.Commit(root))
}

// changed is the root of a tree behind a change.
func changed(p *pager.Pager, root int, c api.Change) (int, api.Errno) {
	if c.Drop {
		other, _, e := tree.Drop(p, root, c.Key)
		return other, e
	}
	return tree.Put(p, root, c.Key, c.Value)
}
