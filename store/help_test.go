package store

import (
	"fmt"
	"maps"
	"reflect"
	"slices"
	"strings"
	"testing"

	"lunette/api"
	"lunette/disk"
	"lunette/free"
	"lunette/pager"
	"lunette/tree"
)

// lot is more than any version here has.
const lot = 1 << 30

// be holds an error against another one.
func be(t *testing.T, what string, got, want api.Errno) {
	t.Helper()
	if got != want {
		t.Fatalf("%s: %d, not %d", what, got, want)
	}
}

// newDisk is a disk of no pages, of at most so many.
func newDisk(t *testing.T, most int) *disk.Disk {
	t.Helper()
	d, e := disk.New(most)
	be(t, "a disk", e, api.OK)
	return d
}

// opened is the store of a disk that has one.
func opened(t *testing.T, d *disk.Disk) *Store {
	t.Helper()
	s, e := Open(d)
	if e != api.OK || s == nil {
		t.Fatalf("Open: %d", e)
	}
	return s
}

// fresh is the store of a disk that had nothing, and the disk.
func fresh(t *testing.T, most int) (*disk.Disk, *Store) {
	t.Helper()
	d := newDisk(t, most)
	return d, opened(t, d)
}

// put is a change that puts a key's value.
func put(key, value string) api.Change { return api.Change{Key: key, Value: value} }

// drop is a change that drops a key.
func drop(key string) api.Change { return api.Change{Key: key, Drop: true} }

// long is a text of so many bytes that begins with another one, as far as it has place.
func long(s string, n int) string { return (s + strings.Repeat("~", n))[:n] }

// short tells a text that may be long.
func short(s string) string {
	if len(s) < 12 {
		return fmt.Sprintf("%q", s)
	}
	return fmt.Sprintf("%q.. of %d", s[:12], len(s))
}

// content is what a version has.
type content map[string]string

// with is what a version has behind changes.
func (c content) with(l ...api.Change) content {
	c = maps.Clone(c)
	if c == nil {
		c = content{}
	}
	for _, x := range l {
		if x.Drop {
			delete(c, x.Key)
		} else {
			c[x.Key] = x.Value
		}
	}
	return c
}

// stretch is the keys from one on, below another one, with their values, at most so many.
func (c content) stretch(from, to string, most int) [][2]string {
	var l [][2]string
	for _, key := range slices.Sorted(maps.Keys(c)) {
		if key >= from && (to == "" || key < to) && len(l) < most {
			l = append(l, [2]string{key, c[key]})
		}
	}
	return l
}

// writes makes a version, and that it is the next one.
func writes(t *testing.T, s *Store, l ...api.Change) {
	t.Helper()
	want := s.Now() + 1
	if v, e := s.Write(l); v != want || e != api.OK || s.Now() != want {
		t.Fatalf("Write: %d, %d, and then %d is the newest, not %d", v, e, s.Now(), want)
	}
}

// has holds what a version answers against what it should have.
func has(t *testing.T, what string, s *Store, version int, want content) {
	t.Helper()
	ranges(t, what, s, version, want, "", "", lot)
	for key := range want {
		gets(t, what, s, version, want, key)
	}
	gets(t, what, s, version, want, "no key of any")
}

// gets holds Get's answer against what a version should have.
func gets(t *testing.T, what string, s *Store, version int, c content, key string) {
	t.Helper()
	want, ok := c[key]
	if v, has, e := s.Get(version, key); v != want || has != ok || e != api.OK {
		t.Fatalf("%s: Get(%d, %s): %s, %v, %d, not %s, %v", what, version, short(key), short(v), has, e, short(want), ok)
	}
}

// ranges holds Range's answer against what a version should have.
func ranges(t *testing.T, what string, s *Store, version int, c content, from, to string, most int) {
	t.Helper()
	want := c.stretch(from, to, most)
	if l, e := s.Range(version, from, to, most); e != api.OK || !slices.Equal(l, want) {
		t.Fatalf("%s: Range(%d, %s, %s, %d): %d keys, %d, not %d, or others", what, version, short(from), short(to), most, len(l), e, len(want))
	}
}

// refuses holds Write's answer against an error, and nothing beside it, and that all is as it was.
func refuses(t *testing.T, what string, s *Store, want api.Errno, l ...api.Change) {
	t.Helper()
	was := pictureOf(s)
	if v, e := s.Write(l); v != 0 || e != want {
		t.Fatalf("Write, %s: %d, %d, not %d", what, v, e, want)
	}
	looks(t, "behind Write, "+what, s, was)
}

// refusesRead holds Get's and Range's answers against an error, and nothing beside it.
func refusesRead(t *testing.T, what string, s *Store, version int, key string, want api.Errno) {
	t.Helper()
	if v, has, e := s.Get(version, key); v != "" || has || e != want {
		t.Errorf("%s: Get(%d, %s): %s, %v, %d, not %d", what, version, short(key), short(v), has, e, want)
	}
	if l, e := s.Range(version, key, "", lot); l != nil || e != want {
		t.Errorf("%s: Range(%d, %s): %v, %d, not %d", what, version, short(key), l, e, want)
	}
}

// gone holds that a version isn't there, whatever is asked of it.
func gone(t *testing.T, what string, s *Store, version int) {
	t.Helper()
	refusesRead(t, what, s, version, "", api.ErrStoreToken)
	refusesRead(t, what, s, version, "a", api.ErrStoreToken)
	be(t, fmt.Sprintf("%s: Pin(%d)", what, version), s.Pin(version), api.ErrStoreToken)
	be(t, fmt.Sprintf("%s: Unpin(%d)", what, version), s.Unpin(version), api.ErrStoreToken)
}

// picture is all that a store answers, but for its pins.
type picture struct {
	now, usable, pages int
	turned             []int
	ranges             map[int][][2]string // of each version from -1 on
	errors             map[int]api.Errno
}

// pictureOf is what a store answers now.
func pictureOf(s *Store) picture {
	x := picture{now: s.Now(), ranges: map[int][][2]string{}, errors: map[int]api.Errno{}}
	x.usable, x.pages = s.Room()
	x.turned = slices.Concat(s.Scrub()) // nil, if there is none
	for v := -1; v <= x.now+2; v++ {
		x.ranges[v], x.errors[v] = s.Range(v, "", "", lot)
	}
	return x
}

// looks holds what a store answers against a picture.
func looks(t *testing.T, what string, s *Store, want picture) {
	t.Helper()
	if got := pictureOf(s); !reflect.DeepEqual(got, want) {
		t.Fatalf("%s: %+v, not %+v", what, got, want)
	}
}

// laid is what stands on a disk, by what the layers below tell of it.
type laid struct {
	tree, chain []int
	free        []api.Free
	pages       int
}

// laidOn is what stands on a disk; each page is a tree's, or the chain's, or free.
func laidOn(t *testing.T, d *disk.Disk) laid {
	t.Helper()
	p, e := pager.Open(d.Copy())
	be(t, "a pager", e, api.OK)
	pages, e := tree.Pages(p, p.Super().Root)
	be(t, "a tree's pages", e, api.OK)
	l := laid{tree: slices.Sorted(slices.Values(pages)), chain: p.Chain(), free: p.Free(), pages: p.Pages()}
	if !free.Cover(l.free, slices.Concat(l.tree, l.chain), l.pages) {
		t.Fatalf("%+v aren't all pages, each once", l)
	}
	return l
}

// usable is how many of the free pages may be used, if that version is the oldest one that is there.
func (l laid) usable(oldest int) int { return free.Usable(l.free, oldest) }

// room holds Room's answer.
func room(t *testing.T, what string, s *Store, usable, pages int) {
	t.Helper()
	if u, p := s.Room(); u != usable || p != pages {
		t.Fatalf("%s: Room: %d, %d, not %d, %d", what, u, p, usable, pages)
	}
}

// scrubs holds Scrub's answer.
func scrubs(t *testing.T, what string, s *Store, want ...int) {
	t.Helper()
	if l := s.Scrub(); !slices.Equal(l, want) {
		t.Fatalf("%s: Scrub: %v, not %v", what, l, want)
	}
}

// turn turns a page's bit, so that its sum isn't right; or, done once more, is.
func turn(t *testing.T, d *disk.Disk, no int) {
	t.Helper()
	b, e := d.Read(no)
	be(t, "a page", e, api.OK)
	be(t, "Spoil", d.Spoil(no, 200, []byte{b[200] ^ 8}), api.OK)
}

// many is puts of so many keys, from k000 on, each key and value of so many bytes.
func many(keys, size int) []api.Change {
	var l []api.Change
	for i := range keys {
		l = append(l, put(long(fmt.Sprintf("k%03d", i), size), long("v", size)))
	}
	return l
}

// grown is a store whose newest version has puts of so many keys, what that has, and the disk.
func grown(t *testing.T, most, keys, size int) (*disk.Disk, *Store, content) {
	t.Helper()
	d, s := fresh(t, most)
	l := many(keys, size)
	writes(t, s, l...)
	return d, s, content{}.with(l...)
}
