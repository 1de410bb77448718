package disk

import (
	"bytes"
	"math"
	"slices"
	"testing"

	"lunette/api"
)

// full is a page of one byte.
func full(c byte) []byte { return bytes.Repeat([]byte{c}, 256) }

// rising is a page whose bytes are all others.
func rising(from byte) []byte {
	b := make([]byte, 256)
	for i := range b {
		b[i] = from + byte(i)
	}
	return b
}

// quarters is a page of four sectors, each of one byte.
func quarters(c ...byte) []byte {
	var b []byte
	for _, x := range c {
		b = append(b, bytes.Repeat([]byte{x}, 64)...)
	}
	return b
}

// grown is a disk of so many pages, which may be twice as long.
func grown(t *testing.T, pages int) *Disk {
	t.Helper()
	d, e := New(2 * pages)
	if e != api.OK {
		t.Fatal(e)
	}
	be(t, "Grow", d.Grow(pages), api.OK)
	return d
}

// dead is a disk of so many pages that is dead.
func dead(t *testing.T, pages int) *Disk {
	t.Helper()
	d := grown(t, pages)
	d.Fuse(0)
	return d
}

// be holds one answer against another.
func be[T comparable](t *testing.T, what string, got, want T) {
	t.Helper()
	if got != want {
		t.Errorf("%s: %v, not %v", what, got, want)
	}
}

// put writes pages, each of which must be written.
func put(t *testing.T, d *Disk, page int, l ...[]byte) {
	t.Helper()
	for _, b := range l {
		be(t, "Write", d.Write(page, b), api.OK)
	}
}

// reads holds a page against bytes.
func reads(t *testing.T, what string, d *Disk, page int, want []byte) {
	t.Helper()
	if b, e := d.Read(page); e != api.OK || !bytes.Equal(b, want) {
		t.Errorf("%s: page %d is %x, %v, not %x", what, page, b, e, want)
	}
}

// lasts holds what is left of a page behind a crash against bytes; the disk stays as it is.
func lasts(t *testing.T, what string, d *Disk, page int, want []byte) {
	t.Helper()
	c := d.Copy()
	c.Crash(nil)
	reads(t, what+", behind a crash", c, page, want)
}

// The chapter's example.
func TestExample(t *testing.T) {
	d := grown(t, 1)
	put(t, d, 0, full(1))
	d.Sync()
	put(t, d, 0, full(2))
	d.Crash([]api.Torn{{Write: 0, Sectors: 0b0010}})
	reads(t, "torn", d, 0, quarters(1, 2, 1, 1))
}

// P3.1
func TestNew(t *testing.T) {
	for _, most := range []int{1, 2, 4095, 4096} {
		d, e := New(most)
		if e != api.OK || d == nil {
			t.Fatal(most, d, e)
		}
		if d.Pages() != 0 || d.Loose() != 0 || d.Dead() {
			t.Error(most, d.Pages(), d.Loose(), d.Dead())
		}
		if b, e := d.Read(0); b != nil || e != api.ErrDiskPage {
			t.Error(most, b, e)
		}
		be(t, "one more", d.Grow(most+1), api.ErrDiskFull)
		be(t, "Pages", d.Pages(), 0)
		be(t, "the most", d.Grow(most), api.OK)
		be(t, "Pages", d.Pages(), most)
		put(t, d, most-1, full(7))
		reads(t, "the last one", d, most-1, full(7))
		be(t, "behind the last one", d.Write(most, full(7)), api.ErrDiskPage)
	}
}

// P3.1, P1
func TestNewOfTooFewOrMany(t *testing.T) {
	for _, most := range []int{0, -1, -4096, 4097, 1 << 20, math.MaxInt, math.MinInt} {
		if d, e := New(most); d != nil || e != api.ErrDiskFull {
			t.Error(most, d, e)
		}
	}
}

// P3.1: never fewer pages.
func TestGrow(t *testing.T) {
	d, _ := New(6)
	for _, x := range []struct {
		to, pages int
		e         api.Errno
	}{
		{0, 0, api.OK},
		{-1, 0, api.OK},
		{7, 0, api.ErrDiskFull},
		{2, 2, api.OK},
		{2, 2, api.OK},
		{1, 2, api.OK},
		{0, 2, api.OK},
		{-1, 2, api.OK},
		{math.MinInt, 2, api.OK},
		{3, 3, api.OK},
		{7, 3, api.ErrDiskFull},
		{math.MaxInt, 3, api.ErrDiskFull},
		{6, 6, api.OK},
		{7, 6, api.ErrDiskFull},
		{5, 6, api.OK},
	} {
		if e := d.Grow(x.to); e != x.e || d.Pages() != x.pages {
			t.Errorf("Grow(%d): %v, with %d pages, not %v, with %d", x.to, e, d.Pages(), x.e, x.pages)
		}
	}
}

// P3.1: new pages are noughts, and last at once; old ones stay, and so do loose writes.
func TestGrowKeepsWhatIsThere(t *testing.T) {
	d := grown(t, 2)
	put(t, d, 0, full(1))
	d.Sync()
	put(t, d, 1, full(2))
	be(t, "Grow", d.Grow(4), api.OK)
	be(t, "Loose", d.Loose(), 1)
	for page, c := range []byte{1, 2, 0, 0} {
		reads(t, "grown", d, page, full(c))
	}
	be(t, "Grow to fewer", d.Grow(1), api.OK)
	for page, c := range []byte{1, 2, 0, 0} {
		reads(t, "grown to fewer", d, page, full(c))
	}
	d.Crash(nil)
	be(t, "Pages", d.Pages(), 4)
	for page, c := range []byte{1, 0, 0, 0} {
		reads(t, "behind a crash", d, page, full(c))
	}
}

// P3.1: pages that were there stay, however often it grows.
func TestGrowPageByPage(t *testing.T) {
	d, _ := New(300)
	for i := range 300 {
		be(t, "Grow", d.Grow(i+1), api.OK)
		reads(t, "new", d, i, full(0))
		put(t, d, i, full(byte(i+1)))
		if i%7 == 0 {
			d.Sync()
		}
	}
	d.Sync()
	for i := range 300 {
		reads(t, "old", d, i, full(byte(i+1)))
	}
}

// P3.1, P1: too many pages are told ahead of a disk that is dead.
func TestGrowOfDead(t *testing.T) {
	d := dead(t, 2)
	for _, x := range []struct {
		to int
		e  api.Errno
	}{{5, api.ErrDiskFull}, {4, api.ErrDiskDead}, {3, api.ErrDiskDead}, {2, api.ErrDiskDead}, {1, api.ErrDiskDead}, {0, api.ErrDiskDead}, {-1, api.ErrDiskDead}} {
		be(t, "Grow", d.Grow(x.to), x.e)
		be(t, "Pages", d.Pages(), 2)
	}
	d.Crash(nil)
	be(t, "behind a crash", d.Grow(3), api.OK)
	be(t, "Pages", d.Pages(), 3)
}

// P3.1, P1: which error is told, and that nothing is done with one.
func TestWriteErrors(t *testing.T) {
	alive := grown(t, 2)
	for _, x := range []struct {
		page, size  int
		alive, dead api.Errno
	}{
		{0, 256, api.OK, api.ErrDiskDead},
		{1, 256, api.OK, api.ErrDiskDead},
		{2, 256, api.ErrDiskPage, api.ErrDiskPage},
		{3, 256, api.ErrDiskPage, api.ErrDiskPage},
		{-1, 256, api.ErrDiskPage, api.ErrDiskPage},
		{math.MaxInt, 256, api.ErrDiskPage, api.ErrDiskPage},
		{math.MinInt, 256, api.ErrDiskPage, api.ErrDiskPage},
		{2, 255, api.ErrDiskPage, api.ErrDiskPage},
		{-1, 0, api.ErrDiskPage, api.ErrDiskPage},
		{1, 0, api.ErrDiskSize, api.ErrDiskSize},
		{1, 1, api.ErrDiskSize, api.ErrDiskSize},
		{1, 64, api.ErrDiskSize, api.ErrDiskSize},
		{1, 255, api.ErrDiskSize, api.ErrDiskSize},
		{1, 257, api.ErrDiskSize, api.ErrDiskSize},
		{0, 512, api.ErrDiskSize, api.ErrDiskSize},
	} {
		b := bytes.Repeat([]byte{5}, x.size)
		loose := alive.Loose()
		be(t, "alive", alive.Write(x.page, b), x.alive)
		if x.alive == api.OK {
			loose++
		}
		be(t, "Loose", alive.Loose(), loose)
		gone := dead(t, 2)
		be(t, "dead", gone.Write(x.page, b), x.dead)
		be(t, "Loose of a dead one", gone.Loose(), 0)
		reads(t, "dead", gone, 0, full(0))
		reads(t, "dead", gone, 1, full(0))
	}
	be(t, "no bytes", alive.Write(0, nil), api.ErrDiskSize)
	be(t, "spare room", alive.Write(0, make([]byte, 255, 256)), api.ErrDiskSize)
}

// P3.1, P1
func TestReadOfNoPage(t *testing.T) {
	none, _ := New(3)
	for _, d := range []*Disk{none, grown(t, 2), dead(t, 2)} {
		for _, page := range []int{d.Pages(), d.Pages() + 1, 4096, -1, math.MaxInt, math.MinInt} {
			if b, e := d.Read(page); b != nil || e != api.ErrDiskPage {
				t.Error(page, b, e)
			}
		}
	}
}

// P3.1: the last loose write to a page, or else what lasts.
func TestRead(t *testing.T) {
	d := grown(t, 3)
	for page := range 3 {
		reads(t, "new", d, page, full(0))
	}
	put(t, d, 1, rising(0))
	reads(t, "one write", d, 1, rising(0))
	reads(t, "another page", d, 0, full(0))
	reads(t, "another page", d, 2, full(0))
	put(t, d, 0, rising(1))
	put(t, d, 1, rising(2), rising(3))
	put(t, d, 2, full(9))
	reads(t, "several writes", d, 0, rising(1))
	reads(t, "several writes", d, 1, rising(3))
	reads(t, "several writes", d, 2, full(9))
	be(t, "Loose", d.Loose(), 5)
	for page := range 3 {
		lasts(t, "not synced", d, page, full(0))
	}
	d.Sync()
	reads(t, "synced", d, 0, rising(1))
	reads(t, "synced", d, 1, rising(3))
	put(t, d, 1, rising(2))
	reads(t, "written behind a sync", d, 0, rising(1))
	reads(t, "written behind a sync", d, 1, rising(2))
	lasts(t, "written behind a sync", d, 1, rising(3))
}

// P3.1: a dead one is read as it was.
func TestReadOfDead(t *testing.T) {
	d := grown(t, 2)
	put(t, d, 0, full(1))
	d.Sync()
	d.Fuse(1)
	put(t, d, 1, full(2))
	be(t, "Dead", d.Dead(), true)
	reads(t, "dead", d, 0, full(1))
	reads(t, "dead", d, 1, full(2))
}

// P3.1: all loose writes last, in order, and aren't loose any more.
func TestSync(t *testing.T) {
	d := grown(t, 3)
	d.Sync()
	be(t, "Loose", d.Loose(), 0)
	put(t, d, 0, full(1), full(2))
	put(t, d, 2, full(3))
	put(t, d, 0, full(4))
	d.Sync()
	be(t, "Loose", d.Loose(), 0)
	be(t, "Pages", d.Pages(), 3)
	for page, c := range []byte{4, 0, 3} {
		reads(t, "synced", d, page, full(c))
		lasts(t, "synced", d, page, full(c))
	}
	d.Sync()
	d.Crash([]api.Torn{{Write: 0, Sectors: 15}, {Write: 1, Sectors: 15}})
	for page, c := range []byte{4, 0, 3} {
		reads(t, "what was synced isn't loose", d, page, full(c))
	}
}

// P3.1: behind a sync, loose writes have numbers from 0 on again.
func TestNumbersBehindSync(t *testing.T) {
	d := grown(t, 2)
	put(t, d, 0, full(1), full(2))
	d.Sync()
	put(t, d, 1, full(3))
	be(t, "Loose", d.Loose(), 1)
	d.Crash([]api.Torn{{Write: 0, Sectors: 15}})
	reads(t, "another page", d, 0, full(2))
	reads(t, "write 0", d, 1, full(3))
	put(t, d, 0, full(4))
	d.Crash([]api.Torn{{Write: 0, Sectors: 15}})
	reads(t, "write 0 behind a crash", d, 0, full(4))
}

// P3.1: a dead one isn't synced.
func TestSyncOfDead(t *testing.T) {
	d := grown(t, 1)
	put(t, d, 0, full(1))
	d.Fuse(0)
	d.Sync()
	be(t, "Loose", d.Loose(), 1)
	be(t, "Dead", d.Dead(), true)
	reads(t, "dead", d, 0, full(1))
	lasts(t, "dead", d, 0, full(0))
}

// P3.1: below 0 counts as 0, and that is dead at once.
func TestFuseOfNothing(t *testing.T) {
	for _, n := range []int{0, -1, -3, math.MinInt} {
		d := grown(t, 1)
		be(t, "ahead", d.Dead(), false)
		d.Fuse(n)
		be(t, "Dead", d.Dead(), true)
		be(t, "Write", d.Write(0, full(1)), api.ErrDiskDead)
		be(t, "Grow", d.Grow(2), api.ErrDiskDead)
		be(t, "Loose", d.Loose(), 0)
		reads(t, "dead", d, 0, full(0))
	}
}

// P3.1: behind n writes and syncs, whichever they are, and not ahead of the last one of them.
func TestFuse(t *testing.T) {
	for _, n := range []int{1, 2, 3, 4, 7} {
		for which := range 1 << n {
			d := grown(t, 1)
			d.Fuse(n)
			last, loose := byte(0), 0
			for i := range n {
				be(t, "ahead of the end", d.Dead(), false)
				if which>>i&1 == 1 {
					d.Sync()
					loose = 0
				} else {
					last = byte(i + 1)
					put(t, d, 0, full(last))
					loose++
				}
			}
			be(t, "at the end", d.Dead(), true)
			be(t, "Loose", d.Loose(), loose)
			reads(t, "what was done", d, 0, full(last))
			be(t, "one more", d.Write(0, full(99)), api.ErrDiskDead)
			d.Sync()
			be(t, "Loose", d.Loose(), loose)
			reads(t, "what was done", d, 0, full(last))
			be(t, "still", d.Dead(), true)
		}
	}
}

// P3.1: nothing but writes and syncs that are done counts.
func TestFuseCountsWhatIsDone(t *testing.T) {
	d := grown(t, 2)
	put(t, d, 0, full(1))
	d.Fuse(1)
	be(t, "no such page", d.Write(2, full(1)), api.ErrDiskPage)
	be(t, "too few bytes", d.Write(0, nil), api.ErrDiskSize)
	be(t, "Grow", d.Grow(3), api.OK)
	be(t, "Grow to fewer", d.Grow(1), api.OK)
	be(t, "Grow above the most", d.Grow(5), api.ErrDiskFull)
	be(t, "Spoil", d.Spoil(0, 3, []byte{1}), api.OK)
	d.Read(0)
	d.Read(9)
	d.Pages()
	d.Loose()
	c := d.Copy()
	c.Sync()
	be(t, "ahead", d.Dead(), false)
	put(t, d, 0, full(2))
	be(t, "behind", d.Dead(), true)
}

// P3.1: a sync of nothing is one that is done.
func TestFuseCountsEmptySyncs(t *testing.T) {
	d := grown(t, 1)
	d.Fuse(2)
	d.Sync()
	be(t, "behind one", d.Dead(), false)
	d.Sync()
	be(t, "behind two", d.Dead(), true)
}

// P3.1: a new fuse takes the old one's place, be it longer or shorter.
func TestFuseAgain(t *testing.T) {
	for _, x := range [][2]int{{1, 3}, {3, 1}, {2, 2}, {5, 0}, {5, -1}, {math.MaxInt, 1}} {
		d := grown(t, 1)
		d.Fuse(x[0])
		d.Fuse(x[1])
		for range max(x[1], 0) {
			be(t, "ahead", d.Dead(), false)
			put(t, d, 0, full(1))
		}
		be(t, "behind", d.Dead(), true)
	}
	d := grown(t, 1)
	for range 10 { // one that is used up but for one, again and again
		d.Fuse(2)
		put(t, d, 0, full(1))
	}
	be(t, "used up but for one", d.Dead(), false)
	d.Sync()
	be(t, "used up", d.Dead(), true)
}

// P3.1: of a dead one a fuse does nothing.
func TestFuseOfDead(t *testing.T) {
	for _, n := range []int{-1, 0, 1, 9, math.MaxInt} {
		d := dead(t, 1)
		d.Fuse(n)
		be(t, "Dead", d.Dead(), true)
		be(t, "Write", d.Write(0, full(1)), api.ErrDiskDead)
		d.Crash(nil)
		be(t, "behind a crash", d.Dead(), false)
		for i := range 20 { // and it is no fuse behind a crash
			put(t, d, 0, full(byte(i)))
			d.Sync()
		}
		be(t, "no fuse", d.Dead(), false)
	}
}

// P3.1: a great fuse is one too.
func TestFuseOfMuch(t *testing.T) {
	d := grown(t, 1)
	d.Fuse(math.MaxInt)
	for range 100 {
		put(t, d, 0, full(1))
		d.Sync()
	}
	be(t, "Dead", d.Dead(), false)
}

// P3.2: a fuse that isn't used up is gone behind a crash.
func TestCrashTakesFuse(t *testing.T) {
	for _, used := range []int{0, 1, 2} {
		d := grown(t, 1)
		d.Fuse(2)
		for range used {
			put(t, d, 0, full(1))
		}
		be(t, "ahead", d.Dead(), used == 2)
		d.Crash(nil)
		be(t, "behind", d.Dead(), false)
		for range 5 {
			put(t, d, 0, full(2))
			d.Sync()
		}
		be(t, "no fuse", d.Dead(), false)
		d.Fuse(1)
		d.Sync()
		be(t, "a new one", d.Dead(), true)
	}
}

// P3.2
func TestCrashOfNothing(t *testing.T) {
	for _, kept := range [][]api.Torn{nil, {}} {
		d := grown(t, 2)
		put(t, d, 0, full(1))
		d.Sync()
		put(t, d, 0, full(2))
		put(t, d, 1, full(3))
		d.Crash(kept)
		be(t, "Loose", d.Loose(), 0)
		be(t, "Pages", d.Pages(), 2)
		reads(t, "crashed", d, 0, full(1))
		reads(t, "crashed", d, 1, full(0))
		d.Sync()
		reads(t, "what was lost stays so", d, 0, full(1))
	}
}

// P3.2: each choice of sectors, with and without bits above the fourth.
func TestCrashSectors(t *testing.T) {
	for bits := range 256 {
		d := grown(t, 2)
		put(t, d, 1, rising(1))
		d.Sync()
		put(t, d, 0, full(8))
		put(t, d, 1, rising(100))
		d.Crash([]api.Torn{{Write: 1, Sectors: uint8(bits)}})
		want := rising(1)
		for i := range 256 {
			if bits>>(i/64)&1 == 1 {
				want[i] = byte(100 + i)
			}
		}
		reads(t, "torn", d, 1, want)
		reads(t, "the other page", d, 0, full(0))
		be(t, "Loose", d.Loose(), 0)
		d.Crash([]api.Torn{{Write: 1, Sectors: 15}})
		reads(t, "crashed again", d, 1, want)
	}
}

// P3.2: each sector alone, by hand.
func TestCrashEachSector(t *testing.T) {
	for _, x := range []struct {
		bits uint8
		want []byte
	}{
		{0, quarters(1, 1, 1, 1)},
		{1, quarters(2, 1, 1, 1)},
		{2, quarters(1, 2, 1, 1)},
		{4, quarters(1, 1, 2, 1)},
		{8, quarters(1, 1, 1, 2)},
		{15, quarters(2, 2, 2, 2)},
		{16, quarters(1, 1, 1, 1)},
		{0xf0, quarters(1, 1, 1, 1)},
		{0xf8, quarters(1, 1, 1, 2)},
	} {
		d := grown(t, 1)
		put(t, d, 0, full(1))
		d.Sync()
		put(t, d, 0, full(2))
		d.Crash([]api.Torn{{Write: 0, Sectors: x.bits}})
		reads(t, "torn", d, 0, x.want)
	}
}

// P3.2: what tells no loose write does nothing, and those beside it do what they tell.
func TestCrashOfWritesThatAreNot(t *testing.T) {
	d := grown(t, 2)
	put(t, d, 0, full(1))
	put(t, d, 1, full(2))
	d.Crash([]api.Torn{{Write: -1, Sectors: 15}, {Write: 2, Sectors: 15}, {Write: math.MaxInt, Sectors: 15}, {Write: 1, Sectors: 1}, {Write: math.MinInt, Sectors: 15}})
	reads(t, "torn", d, 0, full(0))
	reads(t, "torn", d, 1, quarters(2, 0, 0, 0))
	none, _ := New(1)
	none.Crash([]api.Torn{{Write: 0, Sectors: 15}})
	be(t, "Pages", none.Pages(), 0)
}

// P3.2: in the order in which they are told, whichever was written first; one may be told twice.
func TestCrashInOrder(t *testing.T) {
	for i, x := range []struct {
		kept []api.Torn
		want []byte
	}{
		{[]api.Torn{{Write: 0, Sectors: 7}, {Write: 1, Sectors: 14}}, quarters(1, 2, 2, 2)},
		{[]api.Torn{{Write: 1, Sectors: 14}, {Write: 0, Sectors: 7}}, quarters(1, 1, 1, 2)},
		{[]api.Torn{{Write: 0, Sectors: 1}, {Write: 0, Sectors: 8}}, quarters(1, 9, 9, 1)},
		{[]api.Torn{{Write: 0, Sectors: 3}, {Write: 1, Sectors: 6}, {Write: 0, Sectors: 4}}, quarters(1, 2, 1, 9)},
		{[]api.Torn{{Write: 0, Sectors: 15}, {Write: 1, Sectors: 15}, {Write: 0, Sectors: 15}}, quarters(1, 1, 1, 1)},
		{[]api.Torn{{Write: 1, Sectors: 2}, {Write: 1, Sectors: 2}}, quarters(9, 2, 9, 9)},
		{[]api.Torn{{Write: 1, Sectors: 15}, {Write: 1, Sectors: 0}}, quarters(2, 2, 2, 2)},
		{[]api.Torn{{Write: 2, Sectors: 15}, {Write: 0, Sectors: 2}}, quarters(9, 1, 9, 9)},
	} {
		d := grown(t, 2)
		put(t, d, 0, full(9))
		d.Sync()
		put(t, d, 0, full(1), full(2))
		put(t, d, 1, full(3))
		d.Crash(x.kept)
		if b, _ := d.Read(0); !bytes.Equal(b, x.want) {
			t.Errorf("%d: %v is %x, not %x", i, x.kept, b, x.want)
		}
	}
}

// P3.2: it isn't dead any more, and what is told survives its death.
func TestCrashOfDead(t *testing.T) {
	d := grown(t, 2)
	d.Fuse(2)
	put(t, d, 0, full(1))
	put(t, d, 1, full(2))
	be(t, "Dead", d.Dead(), true)
	d.Crash([]api.Torn{{Write: 1, Sectors: 3}})
	be(t, "Dead", d.Dead(), false)
	be(t, "Loose", d.Loose(), 0)
	reads(t, "lost", d, 0, full(0))
	reads(t, "torn", d, 1, quarters(2, 2, 0, 0))
	put(t, d, 0, full(3))
	be(t, "Loose", d.Loose(), 1)
	d.Sync()
	lasts(t, "synced again", d, 0, full(3))
}

// P3.2, P1: which error is told, and that nothing is done with one.
func TestSpoilErrors(t *testing.T) {
	none, _ := New(1)
	be(t, "no pages", none.Spoil(0, 0, nil), api.ErrDiskPage)
	for _, d := range []*Disk{grown(t, 2), dead(t, 2)} {
		for _, x := range []struct {
			page, at, size int
			e              api.Errno
		}{
			{2, 0, 1, api.ErrDiskPage},
			{-1, 0, 1, api.ErrDiskPage},
			{math.MaxInt, 0, 0, api.ErrDiskPage},
			{math.MinInt, 0, 0, api.ErrDiskPage},
			{2, -1, 1, api.ErrDiskPage},
			{2, 256, 1, api.ErrDiskPage},
			{1, -1, 1, api.ErrDiskSize},
			{1, -1, 0, api.ErrDiskSize},
			{1, math.MinInt, 1, api.ErrDiskSize},
			{1, -1, 257, api.ErrDiskSize},
			{1, -1, 256, api.ErrDiskSize},
			{1, 0, 257, api.ErrDiskSize},
			{1, 1, 256, api.ErrDiskSize},
			{1, 255, 2, api.ErrDiskSize},
			{1, 256, 1, api.ErrDiskSize},
			{1, 257, 0, api.ErrDiskSize},
			{1, math.MaxInt, 0, api.ErrDiskSize},
			{1, math.MaxInt, 1, api.ErrDiskSize},
			{1, math.MaxInt, 300, api.ErrDiskSize},
			{1, math.MaxInt - 3, 256, api.ErrDiskSize},
		} {
			if e := d.Spoil(x.page, x.at, bytes.Repeat([]byte{1}, x.size)); e != x.e {
				t.Errorf("%v: %v", x, e)
			}
			reads(t, "not spoilt", d, 0, full(0))
			reads(t, "not spoilt", d, 1, full(0))
		}
	}
}

// P3.2: of each length at each place, edges too.
func TestSpoil(t *testing.T) {
	for _, size := range []int{0, 1, 2, 63, 64, 65, 255, 256} {
		for at := 0; at+size <= 256; at++ {
			d := grown(t, 2)
			put(t, d, 1, rising(0))
			d.Sync()
			b := bytes.Repeat([]byte{0xaa}, size)
			be(t, "Spoil", d.Spoil(1, at, b), api.OK)
			want := rising(0)
			copy(want[at:], b)
			reads(t, "spoilt", d, 1, want)
			lasts(t, "spoilt", d, 1, want)
			reads(t, "another page", d, 0, full(0))
			be(t, "Loose", d.Loose(), 0)
		}
	}
	d := grown(t, 1)
	be(t, "nothing, at the end", d.Spoil(0, 256, nil), api.OK)
	be(t, "nothing, at the beginning", d.Spoil(0, 0, []byte{}), api.OK)
	reads(t, "nothing", d, 0, full(0))
}

// P3.2: each loose write to that page has these bytes too, whether it is synced, kept or lost.
func TestSpoilOfLooseWrites(t *testing.T) {
	d := grown(t, 2)
	put(t, d, 0, full(1))
	d.Sync()
	put(t, d, 0, full(2))
	put(t, d, 1, full(3))
	put(t, d, 0, full(4))
	be(t, "Spoil", d.Spoil(0, 126, []byte{50, 51, 52, 53}), api.OK)
	be(t, "Loose", d.Loose(), 3)
	spoilt := func(b []byte) []byte {
		copy(b[126:], []byte{50, 51, 52, 53})
		return b
	}
	reads(t, "loose", d, 0, spoilt(full(4)))
	reads(t, "another page", d, 1, full(3))
	for _, x := range []struct {
		kept []api.Torn
		want []byte
	}{
		{nil, full(1)},
		{[]api.Torn{{Write: 0, Sectors: 15}}, full(2)},
		{[]api.Torn{{Write: 0, Sectors: 2}}, quarters(1, 2, 1, 1)},
		{[]api.Torn{{Write: 0, Sectors: 4}}, quarters(1, 1, 2, 1)},
		{[]api.Torn{{Write: 2, Sectors: 15}}, full(4)},
		{[]api.Torn{{Write: 2, Sectors: 6}, {Write: 0, Sectors: 1}}, quarters(2, 4, 4, 1)},
	} {
		c := d.Copy()
		c.Crash(x.kept)
		reads(t, "crashed", c, 0, spoilt(x.want))
		reads(t, "crashed", c, 1, full(0))
	}
	d.Sync()
	reads(t, "synced", d, 0, spoilt(full(4)))
	put(t, d, 0, full(6))
	reads(t, "written again", d, 0, full(6))
	lasts(t, "written again", d, 0, spoilt(full(4)))
}

// P3.2: behind everybody's back: of a dead one too.
func TestSpoilOfDead(t *testing.T) {
	d := grown(t, 1)
	d.Fuse(1)
	put(t, d, 0, full(1))
	be(t, "Spoil", d.Spoil(0, 0, []byte{7}), api.OK)
	want := full(1)
	want[0] = 7
	reads(t, "spoilt", d, 0, want)
	want = full(0)
	want[0] = 7
	lasts(t, "spoilt", d, 0, want)
	be(t, "Dead", d.Dead(), true)
	be(t, "Loose", d.Loose(), 1)
}

// P3.3: each write that is done is loose, however often a page is written.
func TestPagesAndLoose(t *testing.T) {
	d, _ := New(5)
	hold := func(what string, pages, loose int) {
		t.Helper()
		for range 2 {
			if d.Pages() != pages || d.Loose() != loose {
				t.Errorf("%s: %d pages and %d loose, not %d and %d", what, d.Pages(), d.Loose(), pages, loose)
			}
		}
	}
	hold("new", 0, 0)
	d.Grow(2)
	hold("grown", 2, 0)
	put(t, d, 0, full(1), full(1), full(1))
	put(t, d, 1, full(0))
	hold("written", 2, 4)
	d.Grow(5)
	hold("grown again", 5, 4)
	d.Spoil(0, 0, full(2))
	hold("spoilt", 5, 4)
	d.Read(0)
	hold("read", 5, 4)
	d.Sync()
	hold("synced", 5, 0)
	put(t, d, 4, full(1))
	hold("written again", 5, 1)
	d.Crash([]api.Torn{{Write: 0, Sectors: 1}})
	hold("crashed", 5, 0)
	d.Fuse(1)
	put(t, d, 4, full(1))
	d.Sync()
	d.Grow(6)
	d.Write(4, full(1))
	hold("dead", 5, 1)
}

// P3.3: a copy is as it was: most, pages, loose writes, fuse.
func TestCopy(t *testing.T) {
	d := grown(t, 2)
	put(t, d, 0, full(1))
	d.Sync()
	put(t, d, 0, full(2), full(3))
	d.Fuse(2)
	put(t, d, 1, full(4))
	c := d.Copy()
	if c == d {
		t.Fatal("it is the same disk")
	}
	if c.Pages() != 2 || c.Loose() != 3 || c.Dead() {
		t.Error(c.Pages(), c.Loose(), c.Dead())
	}
	reads(t, "copy", c, 0, full(3))
	reads(t, "copy", c, 1, full(4))
	be(t, "the most", c.Grow(4), api.OK)
	be(t, "above the most", c.Grow(5), api.ErrDiskFull)
	again := c.Copy()
	again.Crash([]api.Torn{{Write: 0, Sectors: 4}, {Write: 2, Sectors: 8}})
	reads(t, "crashed", again, 0, quarters(1, 1, 2, 1))
	reads(t, "crashed", again, 1, quarters(0, 0, 0, 4))
	c.Sync()
	be(t, "the fuse", c.Dead(), true)
	be(t, "a dead one's copy", c.Copy().Dead(), true)
	be(t, "a dead one's copy", c.Copy().Write(0, full(1)), api.ErrDiskDead)
	none, _ := New(1)
	be(t, "a new one's copy", none.Copy().Pages(), 0)
	be(t, "a new one's copy", none.Copy().Grow(1), api.OK)
	be(t, "a new one's copy", none.Copy().Grow(2), api.ErrDiskFull)
}

// P3.3: whatever happens to one of both, the other one stays.
func TestCopyStandsAlone(t *testing.T) {
	begin := func() *Disk {
		d := grown(t, 2)
		put(t, d, 0, full(1))
		d.Sync()
		put(t, d, 0, full(2))
		d.Fuse(4)
		return d
	}
	acts := map[string]func(d *Disk){
		"write":           func(d *Disk) { d.Write(0, full(7)) },
		"write of page 1": func(d *Disk) { d.Write(1, full(7)) },
		"writes":          func(d *Disk) { d.Write(1, full(7)); d.Write(1, full(8)); d.Write(0, full(9)) },
		"sync":            func(d *Disk) { d.Sync() },
		"grow":            func(d *Disk) { d.Grow(4) },
		"fuse":            func(d *Disk) { d.Fuse(0) },
		"long fuse":       func(d *Disk) { d.Fuse(100) },
		"crash":           func(d *Disk) { d.Crash(nil) },
		"torn":            func(d *Disk) { d.Crash([]api.Torn{{Write: 0, Sectors: 1}}) },
		"spoil":           func(d *Disk) { d.Spoil(0, 0, full(7)); d.Spoil(1, 0, full(7)) },
		"sync, write":     func(d *Disk) { d.Sync(); d.Write(0, full(7)); d.Write(1, full(8)) },
		"crash, write":    func(d *Disk) { d.Crash(nil); d.Write(0, full(7)); d.Write(1, full(8)) },
		"grow, write":     func(d *Disk) { d.Grow(3); d.Write(2, full(7)); d.Sync() },
	}
	for name, act := range acts {
		for _, copied := range []bool{false, true} {
			d := begin()
			c := d.Copy()
			if copied {
				d, c = c, d
			}
			act(d)
			if c.Pages() != 2 || c.Loose() != 1 || c.Dead() {
				t.Error(name, copied, c.Pages(), c.Loose(), c.Dead())
			}
			reads(t, name, c, 0, full(2))
			reads(t, name, c, 1, full(0))
			lasts(t, name, c, 0, full(1))
			lasts(t, name, c, 1, full(0))
			put(t, c, 1, full(3), full(4), full(5))
			be(t, name+": three of the fuse's four", c.Dead(), false)
			c.Sync()
			be(t, name+": the fuse", c.Dead(), true)
			reads(t, name+", synced", c, 0, full(2))
			lasts(t, name+", synced", c, 1, full(5))
		}
	}
}

// P3.3: two disks that were made one behind the other know nothing of each other.
func TestDisksStandAlone(t *testing.T) {
	a, b := grown(t, 1), grown(t, 1)
	put(t, a, 0, full(1))
	a.Fuse(0)
	reads(t, "the other one", b, 0, full(0))
	be(t, "Loose", b.Loose(), 0)
	be(t, "Dead", b.Dead(), false)
}

// What is handed in isn't kept.
func TestHandedInIsNotKept(t *testing.T) {
	d := grown(t, 1)
	b := full(1)
	put(t, d, 0, b)
	b[0] = 9
	reads(t, "written", d, 0, full(1))
	d.Sync()
	b[1] = 9
	reads(t, "synced", d, 0, full(1))
	s := []byte{1, 1}
	put(t, d, 0, full(1))
	d.Spoil(0, 10, s)
	s[0] = 9
	reads(t, "spoilt", d, 0, full(1))
	lasts(t, "spoilt", d, 0, full(1))
	kept := []api.Torn{{Write: 1, Sectors: 15}}
	put(t, d, 0, full(2))
	d.Crash(kept)
	kept[0] = api.Torn{}
	reads(t, "crashed", d, 0, full(2))
}

// What is handed in isn't changed, nor is its spare room.
func TestHandedInIsNotChanged(t *testing.T) {
	d := grown(t, 1)
	room := bytes.Repeat([]byte{1}, 600)
	put(t, d, 0, room[:256])
	d.Write(0, room[:100])
	d.Spoil(0, 0, room[:3])
	put(t, d, 0, full(2))
	d.Spoil(0, 1, []byte{7, 7, 7})
	d.Sync()
	if !bytes.Equal(room, bytes.Repeat([]byte{1}, 600)) {
		t.Error(room)
	}
	kept := []api.Torn{{Write: 0, Sectors: 0xff}, {Write: -1, Sectors: 3}, {Write: 0, Sectors: 1}, {Write: 5, Sectors: 5}}
	was := slices.Clone(kept)
	put(t, d, 0, full(3))
	d.Crash(kept[:3])
	if !slices.Equal(kept, was) {
		t.Error(kept)
	}
}

// What is handed out is new memory.
func TestHandedOutIsNew(t *testing.T) {
	d := grown(t, 2)
	for _, what := range []string{"new", "loose", "synced"} {
		want, _ := d.Read(0)
		a, _ := d.Read(0)
		b, _ := d.Read(0)
		for i := range a {
			a[i] ^= 0xff
		}
		if spare := a[len(a):cap(a)]; len(spare) > 0 {
			copy(spare, full(0xee))
		}
		if !bytes.Equal(b, want) {
			t.Errorf("%s: two answers share memory", what)
		}
		reads(t, what, d, 0, want)
		reads(t, what, d, 1, full(0))
		lasts(t, what, d, 1, full(0))
		if what == "new" {
			put(t, d, 0, full(1))
		} else {
			d.Sync()
		}
	}
	lasts(t, "at last", d, 0, full(1))
}

// P1: every call at wild arguments, of disks in all states; what fails does nothing.
func TestWildArguments(t *testing.T) {
	numbers := []int{math.MinInt, math.MinInt32, -257, -256, -1, 0, 1, 2, 3, 63, 64, 255, 256, 257, 4095, 4096, 4097, math.MaxInt32, math.MaxInt - 255, math.MaxInt}
	sizes := []int{0, 1, 255, 256, 257, 1000}
	none, _ := New(2)
	wet := grown(t, 2)
	put(t, wet, 0, full(1))
	put(t, wet, 1, full(2))
	gone := wet.Copy()
	gone.Fuse(0)
	for _, d := range []*Disk{none, grown(t, 2), wet, dead(t, 2), gone} {
		for _, n := range numbers {
			New(n)
			if b, e := d.Read(n); (e != api.OK) != (b == nil) {
				t.Error(n, b, e)
			}
			d.Copy().Grow(n)
			d.Copy().Fuse(n)
			for _, size := range sizes {
				d.Copy().Write(n, make([]byte, size))
				for _, at := range numbers {
					d.Copy().Spoil(n, at, make([]byte, size))
				}
			}
			for _, bits := range []uint8{0, 1, 15, 16, 255} {
				d.Copy().Crash([]api.Torn{{Write: n, Sectors: bits}, {Write: 0, Sectors: bits}})
			}
		}
	}
}
