// Package key is layer 1: see shared/doc/01-key.md.
package key

import (
	"slices"

	"lunette/api"
)

const (
	// Two noughts end a part: nothing within a part is below them, so fewer bytes come ahead.
	nought = 0
	// A part's own nought is followed by the highest byte, so it is never taken for an end.
	shield = 255
	// numSize is how many bytes a number takes.
	numSize = 8
)

// Put is parts as one key.
func Put(parts ...string) string {
	var out []byte
	tell := func(b byte) { out = append(out, b) }
	for _, part := range parts {
		lay(part, tell)
	}
	return string(out)
}

// lay tells the bytes by which a part stands in a key.
func lay(part string, tell func(b byte)) {
	for i := range len(part) {
		tell(part[i])
		if part[i] == nought {
			tell(shield)
		}
	}
	tell(nought)
	tell(nought)
}

// Get is the parts of a key.
func Get(s string) ([]string, api.Errno) {
	var parts []string
	for len(s) > 0 {
		part, size := first(s)
		if size == 0 {
			return nil, api.ErrKeyForm
		}
		parts = append(parts, part)
		s = s[size:]
	}
	return parts, api.OK
}

// first is the part that a key begins with, and how many of the key's bytes it takes; 0: there is no such part.
func first(s string) (string, int) {
	var part []byte
	for i := 0; i < len(s); i++ {
		if s[i] != nought {
			part = append(part, s[i])
			continue
		}
		i++
		if i == len(s) {
			break
		}
		switch s[i] {
		case nought:
			return string(part), i + 1
		case shield:
			part = append(part, nought)
		default:
			return "", 0
		}
	}
	return "", 0
}

// Less is whether parts come ahead of others.
func Less(a, b []string) bool {
	return slices.Compare(a, b) < 0
}

// After is the least text above all that begin with one; false: there is none.
func After(s string) (string, bool) {
	n := len(s)
	// The highest byte has none above it: what is one more must be sought ahead of it.
	for n > 0 && s[n-1] == 255 {
		n--
	}
	if n == 0 {
		return "", false
	}
	out := []byte(s[:n])
	out[n-1]++
	return string(out), true
}

// Num is a number as eight bytes, in whose order numbers stand.
func Num(n uint64) string {
	var out [numSize]byte
	for i := range numSize {
		out[numSize-1-i] = byte(n)
		n >>= 8
	}
	return string(out[:])
}

// Of is the number of eight bytes.
func Of(s string) (uint64, api.Errno) {
	if len(s) != numSize {
		return 0, api.ErrKeyForm
	}
	var n uint64
	for i := range numSize {
		n = n<<8 | uint64(s[i])
	}
	return n, api.OK
}
