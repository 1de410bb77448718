package disk

import (
	"bytes"
	"testing"

	"lunette/api"
)

// model is a disk by the chapter's words alone: nothing is looked up, all is worked out anew.
type model struct {
	most  int
	pages [][]byte
	loose []told
	fuse  int // below 0: none
}

// told is a loose write.
type told struct {
	page int
	b    []byte
}

func (m *model) dead() bool { return m.fuse == 0 }

func (m *model) done() {
	if m.fuse > 0 {
		m.fuse--
	}
}

func (m *model) grow(pages int) api.Errno {
	switch {
	case pages > m.most:
		return api.ErrDiskFull
	case m.dead():
		return api.ErrDiskDead
	}
	for len(m.pages) < pages {
		m.pages = append(m.pages, make([]byte, 256))
	}
	return api.OK
}

func (m *model) write(page int, b []byte) api.Errno {
	switch {
	case page < 0 || page >= len(m.pages):
		return api.ErrDiskPage
	case len(b) != 256:
		return api.ErrDiskSize
	case m.dead():
		return api.ErrDiskDead
	}
	m.loose = append(m.loose, told{page, bytes.Clone(b)})
	m.done()
	return api.OK
}

func (m *model) read(page int) ([]byte, api.Errno) {
	if page < 0 || page >= len(m.pages) {
		return nil, api.ErrDiskPage
	}
	for i := len(m.loose) - 1; i >= 0; i-- {
		if m.loose[i].page == page {
			return m.loose[i].b, api.OK
		}
	}
	return m.pages[page], api.OK
}

func (m *model) sync() {
	if m.dead() {
		return
	}
	for _, w := range m.loose {
		m.pages[w.page] = w.b
	}
	m.loose = nil
	m.done()
}

func (m *model) light(n int) {
	if !m.dead() {
		m.fuse = max(n, 0)
	}
}

func (m *model) crash(kept []api.Torn) {
	for _, k := range kept {
		if k.Write < 0 || k.Write >= len(m.loose) {
			continue
		}
		w := m.loose[k.Write]
		for i := range 256 {
			if k.Sectors&(1<<(i/64)) != 0 {
				m.pages[w.page][i] = w.b[i]
			}
		}
	}
	m.loose, m.fuse = nil, -1
}

func (m *model) spoil(page, at int, b []byte) api.Errno {
	switch {
	case page < 0 || page >= len(m.pages):
		return api.ErrDiskPage
	case at < 0 || at+len(b) > 256:
		return api.ErrDiskSize
	}
	for i, x := range b {
		m.pages[page][at+i] = x
		for _, w := range m.loose {
			if w.page == page {
				w.b[at+i] = x
			}
		}
	}
	return api.OK
}

// dice is numbers, one behind the other, the same at each run.
type dice uint32

// below is the next number, below n.
func (d *dice) below(n int) int {
	*d = *d*1664525 + 1013904223
	return int(*d>>8) % n
}

// bytes is so many bytes of all sorts.
func (d *dice) bytes(size int) []byte {
	b := make([]byte, size)
	for i := range b {
		b[i] = byte(d.below(256))
	}
	return b
}

// torn is what a crash keeps, some of it of no loose write.
func (d *dice) torn() []api.Torn {
	l := make([]api.Torn, d.below(6))
	for i := range l {
		l[i] = api.Torn{Write: d.below(10) - 2, Sectors: uint8(d.below(256))}
	}
	return l
}

// size is mostly a page's.
func (d *dice) size() int {
	if d.below(8) > 0 {
		return 256
	}
	return d.below(300)
}

// step does one act to both, and is whether they answered the same.
func step(d *Disk, m *model, dice *dice) bool {
	switch act := dice.below(24); {
	case act < 10:
		page, b := dice.below(8)-1, dice.bytes(dice.size())
		return d.Write(page, b) == m.write(page, b)
	case act < 13:
		d.Sync()
		m.sync()
	case act < 16:
		pages := dice.below(9) - 1
		return d.Grow(pages) == m.grow(pages)
	case act < 19:
		page, at, b := dice.below(8)-1, dice.below(260)-2, dice.bytes(dice.below(80))
		return d.Spoil(page, at, b) == m.spoil(page, at, b)
	case act < 21:
		n := dice.below(9) - 1
		d.Fuse(n)
		m.light(n)
	default:
		kept := dice.torn()
		d.Crash(kept)
		m.crash(kept)
	}
	return true
}

// same is whether both tell the same.
func same(d *Disk, m *model) bool {
	if d.Pages() != len(m.pages) || d.Loose() != len(m.loose) || d.Dead() != m.dead() {
		return false
	}
	for page := -1; page <= len(m.pages); page++ {
		a, e := d.Read(page)
		b, f := m.read(page)
		if e != f || !bytes.Equal(a, b) {
			return false
		}
	}
	return true
}

// P3.1, P3.2, P3.3: whatever happens, in whichever order, it is as the chapter's words have it.
func TestAsTheModel(t *testing.T) {
	for seed := range 300 {
		dice := dice(seed*7919 + 1)
		most := 1 + dice.below(7)
		d, _ := New(most)
		m := &model{most: most, fuse: -1}
		for i := range 150 {
			if !step(d, m, &dice) || !same(d, m) {
				t.Fatalf("seed %d: another one behind %d acts", seed, i+1)
			}
			if dice.below(20) == 0 {
				d = d.Copy()
			}
		}
	}
}

// P3.4: the same acts, with syncs wherever they may be, and without.
func TestSyncsDoNotMatter(t *testing.T) {
	for seed := range 200 {
		dice := dice(seed*104729 + 5)
		often, never := grown(t, 3), grown(t, 3)
		for range 60 {
			switch page := dice.below(7) - 1; dice.below(5) {
			case 0:
				be(t, "Grow", often.Grow(page), never.Grow(page))
			case 1:
				at, b := dice.below(258), dice.bytes(dice.below(70))
				be(t, "Spoil", often.Spoil(page, at, b), never.Spoil(page, at, b))
			default:
				b := dice.bytes(dice.size())
				be(t, "Write", often.Write(page, b), never.Write(page, b))
			}
			if dice.below(3) == 0 {
				often.Sync()
			}
			be(t, "Pages", often.Pages(), never.Pages())
			for page := range never.Pages() {
				b, _ := never.Read(page)
				reads(t, "with syncs", often, page, b)
			}
		}
		never.Sync()
		often.Sync()
		for page := range never.Pages() {
			b, _ := often.Read(page)
			lasts(t, "synced at last", never, page, b)
			lasts(t, "synced again", often, page, b)
		}
	}
}
