package store

import (
	"fmt"
	"maps"
	"math/rand"
	"slices"
	"testing"

	"lunette/api"
	"lunette/disk"
)

// twin is a store, and what each of its versions has that is there.
type twin struct {
	t    *testing.T
	r    *rand.Rand
	d    *disk.Disk
	s    *Store
	most int
	told map[int]content
	pins map[int]int
	full int // how often there was no room
}

// newTwin is the store of a disk that had nothing.
func newTwin(t *testing.T, seed, most int) *twin {
	x := &twin{t: t, r: rand.New(rand.NewSource(int64(seed))), most: most, told: map[int]content{1: {}}, pins: map[int]int{}}
	x.d, x.s = fresh(t, most)
	return x
}

// key is a key, mostly one of few; now and then one that is too long.
func (x *twin) key() string {
	key := fmt.Sprint(x.r.Intn(60))
	if x.r.Intn(4) == 0 {
		return long(key, []int{0, 1, 99, 100, 60, 60}[x.r.Intn(6)])
	}
	if x.r.Intn(200) == 0 {
		return long(key, 101)
	}
	return key
}

// changes is some changes.
func (x *twin) changes() []api.Change {
	var l []api.Change
	for range []int{0, 1, 1, 2, 5, 30}[x.r.Intn(6)] {
		if x.r.Intn(5) < 2 {
			l = append(l, drop(x.key()))
			continue
		}
		value := []int{0, 1, 5, 99, 100}[x.r.Intn(5)]
		if x.r.Intn(200) == 0 {
			value = 101
		}
		l = append(l, put(x.key(), long(fmt.Sprint(x.r.Intn(100)), value)))
	}
	return l
}

// act does one act to both.
func (x *twin) act() string {
	now := x.s.Now()
	version := now - x.r.Intn(3) + x.r.Intn(2)
	if vs := slices.Sorted(maps.Keys(x.told)); x.r.Intn(2) == 0 {
		version = vs[x.r.Intn(len(vs))]
	}
	_, there := x.told[version]
	switch x.r.Intn(9) {
	case 0:
		be(x.t, "Pin", x.s.Pin(version), map[bool]api.Errno{true: api.OK, false: api.ErrStoreToken}[there])
		if there {
			x.pins[version]++
		}
		return fmt.Sprintf("Pin(%d)", version)
	case 1, 2:
		be(x.t, "Unpin", x.s.Unpin(version), map[bool]api.Errno{true: api.OK, false: api.ErrStoreToken}[x.pins[version] > 0])
		if x.pins[version] > 0 {
			x.pins[version]--
		}
		x.forget()
		return fmt.Sprintf("Unpin(%d)", version)
	case 3:
		if x.r.Intn(8) == 0 {
			x.s = opened(x.t, x.d)
			clear(x.pins)
			x.forget()
		}
		return "Open"
	default:
		return x.write(x.changes())
	}
}

// write writes changes to both.
func (x *twin) write(l []api.Change) string {
	now := x.s.Now()
	want := api.OK
	for _, c := range l {
		if len(c.Key) > 100 || !c.Drop && len(c.Value) > 100 {
			want = api.ErrStoreLong
		}
	}
	v, e := x.s.Write(l)
	if e == api.ErrStoreFull && want == api.OK && x.most < 200 {
		x.full++
		want = e
	}
	if e != want || e != api.OK && v != 0 || e == api.OK && v != now+1 {
		x.t.Fatalf("Write of %d changes: %d, %d, not %d", len(l), v, e, want)
	}
	if e == api.OK {
		x.told[v] = x.told[now].with(l...)
		x.forget()
	}
	return fmt.Sprintf("Write of %d changes: %d", len(l), e)
}

// forget forgets what isn't there any more.
func (x *twin) forget() {
	maps.DeleteFunc(x.told, func(v int, _ content) bool { return v != x.s.Now() && x.pins[v] == 0 })
}

// holds holds all that both tell against each other.
func (x *twin) holds(what string) {
	x.t.Helper()
	for v := range x.s.Now() + 3 {
		if c, ok := x.told[v]; ok {
			ranges(x.t, what, x.s, v, c, "", "", lot)
		} else {
			refusesRead(x.t, what, x.s, v, x.key(), api.ErrStoreToken)
		}
	}
	for v, c := range x.told {
		gets(x.t, what, x.s, v, c, x.key())
		ranges(x.t, what, x.s, v, c, x.key(), x.key(), x.r.Intn(9))
	}
	l := laidOn(x.t, x.d)
	room(x.t, what, x.s, l.usable(slices.Min(slices.Collect(maps.Keys(x.told)))), l.pages)
	scrubs(x.t, what, x.s)
}

// P10.1 to P10.5: whatever is written, pinned and let go, each version that is there answers as a plain map that was kept when it was made.
func TestAsMaps(t *testing.T) {
	full := 0
	for seed := range 40 {
		most := []int{4000, 4000, 100, 40}[seed%4]
		x := newTwin(t, seed, most)
		for i := range 150 {
			what := x.act()
			x.holds(fmt.Sprintf("seed %d, act %d, %s", seed, i, what))
		}
		for v, n := range x.pins { // as often as was kept, and no more
			for range n {
				be(t, "Unpin", x.s.Unpin(v), api.OK)
			}
			be(t, "Unpin, once more", x.s.Unpin(v), api.ErrStoreToken)
		}
		full += x.full
	}
	if full == 0 {
		t.Error("there was always room")
	}
}
