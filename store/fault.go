package store

import (
	"errors"

	"lunette/api"
)

// What the errors of the layers below are for a store.
var (
	errFull = errors.New("no room")
	errBad  = errors.New("a page that isn't as it was written")
	errDead = errors.New("a disk that is dead")
)

// faultOf is what an error of a layer below is.
func faultOf(e api.Errno) error {
	switch e {
	case api.OK:
		return nil
	case api.ErrDiskFull, api.ErrPagerFull:
		return errFull
	case api.ErrDiskDead:
		return errDead
	default:
		return errBad
	}
}

// named is an error's number; of one that several are joined to, that which Write's promise names first.
func named(err error) api.Errno {
	is := func(other error) bool { return errors.Is(err, other) }
	switch {
	case err == nil:
		return api.OK
	case is(errFull):
		return api.ErrStoreFull
	case is(errBad):
		return api.ErrStoreBad
	default:
		return api.ErrStoreDead
	}
}
