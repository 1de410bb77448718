package store

import (
	"fmt"
	"math/rand"
	"slices"
	"testing"

	"lunette/api"
	"lunette/disk"
)

// scene is a store that is written to, and what it then has.
type scene struct {
	what      string
	d         *disk.Disk
	was, next content
	version   int
	changes   []api.Change
	done      int // how many writes and syncs that takes
}

// scenes is stores of several kinds, to each of which changes are to be done.
func scenes(t *testing.T) []scene {
	t.Helper()
	var l []scene
	add := func(what string, first [][]api.Change, changes ...api.Change) {
		d, s := fresh(t, 300)
		x := scene{what: what, d: d, changes: changes}
		for _, f := range first {
			writes(t, s, f...)
			x.was = x.was.with(f...)
		}
		x.version, x.next = s.Now(), x.was.with(changes...)
		x.done = steps(t, d, changes)
		l = append(l, x)
	}
	some := many(40, 30)
	add("nothing on a fresh one", nil)
	add("a key on a fresh one", nil, put("a", "1"))
	add("many on a fresh one", nil, some...)
	add("nothing", [][]api.Change{some})
	add("a key", [][]api.Change{some, some}, put("a", "1"))
	add("a key that is there", [][]api.Change{some, some, some}, put(some[9].Key, "1"))
	add("a key dropped", [][]api.Change{some, some}, drop(some[0].Key))
	add("all dropped", [][]api.Change{{put("a", "1")}, {put("a", "2")}}, drop("a"))
	add("several", [][]api.Change{some, {put("a", "1")}, {put("k", "1")}}, put("a", "2"), drop(some[30].Key), put("z", ""))
	return l
}

// steps is how many writes and syncs changes take.
func steps(t *testing.T, d *disk.Disk, changes []api.Change) int {
	t.Helper()
	for n := range 1000 {
		c := d.Copy()
		s := opened(t, c)
		c.Fuse(n)
		if _, e := s.Write(changes); e == api.OK {
			return n
		}
	}
	t.Fatal("it never ends")
	return 0
}

// P10.2, P10.3: wherever the disk dies, nothing is changed, till all was done.
func TestDies(t *testing.T) {
	for _, x := range scenes(t) {
		for n := range x.done + 3 {
			d := x.d.Copy()
			s := opened(t, d)
			be(t, "Pin", s.Pin(x.version), api.OK)
			d.Fuse(n)
			if n >= x.done {
				writes(t, s, x.changes...)
				has(t, x.what, s, x.version+1, x.next)
				has(t, x.what, s, x.version, x.was)
				continue
			}
			refuses(t, x.what, s, api.ErrStoreDead, x.changes...)
			refuses(t, x.what, s, api.ErrStoreDead, x.changes...)
			refuses(t, x.what, s, api.ErrStoreDead)
			has(t, x.what, s, x.version, x.was)
			be(t, "Unpin", s.Unpin(x.version), api.OK)
			be(t, "Unpin", s.Unpin(x.version), api.ErrStoreToken)
			has(t, x.what, s, x.version, x.was)
		}
	}
}

// survivors is which of so many loose writes survive, and how: all, none, each alone, all but each, and some, whole and torn.
func survivors(r *rand.Rand, loose int) [][]api.Torn {
	whole := func(has func(i int) bool) []api.Torn {
		var l []api.Torn
		for i := range loose {
			if has(i) {
				l = append(l, api.Torn{Write: i, Sectors: 0b1111})
			}
		}
		return l
	}
	l := [][]api.Torn{nil, whole(func(int) bool { return true })}
	for n := range loose {
		l = append(l, whole(func(i int) bool { return i == n }), whole(func(i int) bool { return i != n }))
	}
	for range 12 {
		some := whole(func(int) bool { return r.Intn(3) > 0 })
		torn := slices.Clone(some)
		for i := range torn {
			torn[i].Sectors = uint8(r.Intn(256))
		}
		r.Shuffle(len(torn), func(i, j int) { torn[i], torn[j] = torn[j], torn[i] })
		l = append(l, some, torn)
	}
	return l
}

// P10.5: wherever the disk dies, and whatever survives: the store that is opened then has the newest version, or the next one, if that was being made, and goes on.
func TestSurvives(t *testing.T) {
	r := rand.New(rand.NewSource(1))
	olds, news := 0, 0
	for _, x := range scenes(t) {
		for n := range x.done + 1 {
			died := x.d.Copy()
			s := opened(t, died)
			died.Fuse(n)
			_, e := s.Write(x.changes)
			for _, kept := range survivors(r, died.Loose()) {
				d := died.Copy()
				d.Crash(kept)
				s := opened(t, d)
				what := fmt.Sprintf("%s, dead behind %d of %d, %v kept", x.what, n, x.done, kept)
				switch {
				case e == api.OK && s.Now() != x.version+1:
					t.Fatalf("%s: version %d was answered, and %d is there", what, x.version+1, s.Now())
				case s.Now() == x.version+1 && n >= x.done-1: // its super was written
					has(t, what, s, s.Now(), x.next)
					goesOn(t, what, d, s, x.next)
					news++
				case s.Now() == x.version:
					has(t, what, s, s.Now(), x.was)
					goesOn(t, what, d, s, x.was)
					olds++
				default:
					t.Fatalf("%s: version %d", what, s.Now())
				}
			}
		}
	}
	if olds == 0 || news == 0 {
		t.Errorf("%d of the version that was, %d of the next one", olds, news)
	}
}

// goesOn holds that a store that has that may be read, pinned and written to, and be opened again.
func goesOn(t *testing.T, what string, d *disk.Disk, s *Store, c content) {
	t.Helper()
	first := s.Now()
	scrubs(t, what, s)
	l := laidOn(t, d)
	room(t, what, s, l.usable(first), l.pages)
	be(t, "Pin", s.Pin(first), api.OK)
	newer := c
	for i := range 3 {
		l := []api.Change{put("on", fmt.Sprint(i)), drop(long(fmt.Sprintf("k%03d", i), 30))}
		writes(t, s, l...)
		newer = newer.with(l...)
	}
	has(t, what+", pinned", s, first, c)
	has(t, what+", and on", s, first+3, newer)
	scrubs(t, what+", and on", s)
	has(t, what+", opened again", opened(t, d), first+3, newer)
}

// P10.5: a disk that dies again and again, with anything surviving: each version that was answered is there, or the next one.
func TestDiesAgainAndAgain(t *testing.T) {
	for seed := range 8 {
		r := rand.New(rand.NewSource(int64(seed)))
		d, s := fresh(t, 60)
		told := map[int]content{1: {}}
		for range 60 {
			d.Fuse(r.Intn(60))
			for !d.Dead() {
				var l []api.Change
				for range r.Intn(5) {
					key := long(fmt.Sprintf("k%02d", r.Intn(20)), r.Intn(60))
					l = append(l, []api.Change{put(key, fmt.Sprint(r.Intn(1000))), drop(key)}[r.Intn(2)])
				}
				told[s.Now()+1] = told[s.Now()].with(l...)
				if r.Intn(4) == 0 {
					be(t, "Pin", s.Pin(s.Now()), api.OK)
				}
				_, e := s.Write(l)
				has(t, "written", s, s.Now(), told[s.Now()])
				if e == api.ErrStoreFull && !d.Dead() {
					s = opened(t, d) // without pins
					told[s.Now()+1] = told[s.Now()]
					_, e = s.Write(nil)
				}
				if e != api.OK && !d.Dead() {
					t.Fatalf("seed %d: Write: %d", seed, e)
				}
			}
			was := s.Now()
			has(t, "dead", s, was, told[was])
			kept := survivors(r, d.Loose())
			d.Crash(kept[r.Intn(len(kept))])
			s = opened(t, d)
			if s.Now() != was && s.Now() != was+1 {
				t.Fatalf("seed %d: version %d, then %d", seed, was, s.Now())
			}
			has(t, fmt.Sprintf("seed %d, opened", seed), s, s.Now(), told[s.Now()])
			scrubs(t, fmt.Sprintf("seed %d, opened", seed), s)
			laidOn(t, d)
		}
	}
}
