package store_test

import (
	"encoding/binary"
	"fmt"
	"math"
	"slices"
	"testing"

	"narthex/api"
	"narthex/disk"
	"narthex/journal"
	"narthex/store"
)

func wantOpen(t *testing.T, what string, d *disk.Disk, at, size int, want api.Errno) {
	t.Helper()
	if s, e := store.Open(d, at, size); s != nil || e != want {
		t.Errorf("%s: Open(%d, %d): %v and %d, not nil and %d", what, at, size, s, e, want)
	}
}

// wrongRegions of a disk of ten pages.
func wrongRegions() [][2]int {
	return [][2]int{
		{0, math.MinInt}, {0, -1}, {0, 0}, {0, 1}, {0, 2}, {8, 2}, {0, 11}, {0, 512}, {0, 513}, {0, math.MaxInt},
		{-1, 3}, {-1, 11}, {-3, 3}, {math.MinInt, 3}, {math.MinInt, math.MaxInt}, {8, 3}, {1, 10}, {10, 3}, {11, 3},
		{math.MaxInt, 3}, {math.MaxInt - 2, 3}, {math.MaxInt, math.MaxInt}, {1, math.MaxInt},
	}
}

// P6.1: that the disk is down is asked ahead of the region, as the journal does it.
func TestOpenOfNoDisk(t *testing.T) {
	d := made(t, 10)
	d.Fuse(0)
	d.Flush()
	for _, r := range append(wrongRegions(), [2]int{0, 8}) {
		wantOpen(t, "nil", nil, r[0], r[1], api.EIO)
		wantOpen(t, "down", d, r[0], r[1], api.EIO)
	}
	d.Crash()
	if s, e := store.Open(d, 0, 8); s == nil || e != api.OK || s.Over() {
		t.Errorf("behind a crash: %v, %d", s, e)
	}
}

// P6.1: nothing is done, not even a step that is refused: the disk would be down.
func TestOpenOfWrongRegions(t *testing.T) {
	p := filled(t, 10)
	p.fuse(0)
	for _, r := range wrongRegions() {
		wantOpen(t, "wrong region", p.d, r[0], r[1], api.EINVAL)
		wantOpen(t, "a disk without pages", &disk.Disk{}, r[0], r[1], api.EINVAL)
	}
	p.same(t, "wrong regions")
}

// P6.1: an Open that the disk doesn't go through with, whether there are changes to be made or not.
func TestOpenThatIsBrokenOff(t *testing.T) {
	l := []journal.Change{{At: 1, Page: full(1)}, {At: 14, Page: full(2)}}
	for f := range 7 {
		quietly, live := filled(t, 16), filled(t, 16)
		live.lay(5, 77, l)
		for _, c := range []struct {
			name  string
			p     pair
			steps int
		}{{"not Live", quietly, 2}, {"Live", live, 5}} {
			c.p.fuse(f)
			b, e := c.p.open(t, fmt.Sprint(c.name, ", fuse ", f), 5, 6)
			if (e == api.OK) != (f >= c.steps) || f < c.steps && (e != api.EIO || b.s != nil) {
				t.Errorf("%s, fuse %d: %v, %d", c.name, f, b.s, e)
			}
		}
	}
}

// P6.1: a Live head that the journal doesn't take: EIO, and nothing is done.
func TestOpenOfSpoiltRegions(t *testing.T) {
	l := []journal.Change{{At: 1, Page: full(1)}, {At: 14, Page: full(2)}}
	spoilt := func(what string, spoil func(p pair)) {
		t.Helper()
		p := filled(t, 16)
		p.lay(5, 77, l)
		spoil(p)
		p.fuse(0)
		wantOpen(t, what, p.d, 5, 6, api.EIO)
		p.same(t, what)
	}
	spoilt("a Count above the room", func(p pair) { p.set(5, headPage(77, true, 5, sumOf(laid(l)))) })
	spoilt("another sum", func(p pair) { p.set(5, headPage(77, true, 2, sumOf(laid(l))+1)) })
	spoilt("another page", func(p pair) { p.set(8, full(3)) })
	spoilt("a number that is no page's", func(p pair) { p.lay(5, 77, []journal.Change{{At: 16}}) })
	spoilt("a number of the region's", func(p pair) { p.lay(5, 77, []journal.Change{{At: 10}}) })
	spoilt("no Seq behind it", func(p pair) { p.set(5, quiet(top)) })
	p := filled(t, 16)
	p.lay(5, top, l)
	wantOpen(t, "no Seq behind the changes", p.d, 5, 6, api.EIO)
	if p.d.Lasts(1) != full(1) || p.d.Lasts(14) != full(2) {
		t.Error("no Seq behind the changes: they aren't made")
	}
}

// P6.1: changes that count still are made, and last; they are in neither step nor group.
func TestOpenOfLiveHead(t *testing.T) {
	p := filled(t, 16)
	p.lay(5, 77, []journal.Change{{At: 14, Page: full(2)}, {At: 1, Page: full(1)}, {At: 0, Page: full(3)}})
	b := p.opened(t, 5, 6)
	b.told(t, "Live", 0, 0, false)
	for i, v := range map[int]byte{0: 3, 1: 1, 14: 2} {
		b.reads(t, i, full(v))
		b.lasts(t, i, full(v))
	}
	b.lasts(t, 5, quiet(78))
	if b.s.Room() != 4 {
		t.Errorf("Room %d", b.s.Room())
	}
}

// P6.1: each region of a small disk.
func TestOpenOfEachRegion(t *testing.T) {
	for n := 1; n <= 8; n++ {
		for at := -2; at <= n+1; at++ {
			for size := -1; size <= n+2; size++ {
				p := filled(t, n)
				_, e := p.open(t, fmt.Sprint("of ", n), at, size)
				if right := size >= 3 && at >= 0 && at+size <= n; (e == api.OK) != right || !right && e != api.EINVAL {
					t.Errorf("Open(%d, %d) of %d pages: %d", at, size, n, e)
				}
			}
		}
	}
}

// P6.1: a page that isn't there, on either side; one in the region, on either edge; one on either side of it.
func TestReadAndPutOfEachPage(t *testing.T) {
	for _, r := range []struct{ pages, at, size int }{
		{20, 6, 7}, {20, 0, 7}, {20, 13, 7}, {7, 0, 7}, {4, 1, 3}, {512, 100, 200}, {512, 0, 300}, {512, 212, 300},
	} {
		d := filled(t, r.pages)
		b := d.opened(t, r.at, r.size)
		far := []int{math.MinInt, math.MinInt + r.at, -512, -r.pages, -r.at - 1, 2 * r.pages, 512, 513, 1 << 16, math.MaxInt32, 1 << 32, 1<<32 + r.pages - 1, math.MaxInt - 1, math.MaxInt}
		near := []int{-2, -1, 0, 1, r.at - 2, r.at - 1, r.at, r.at + 1, r.at + r.size - 1, r.at + r.size, r.at + r.size + 1, r.pages - 1, r.pages, r.pages + 1}
		for _, i := range append(far, near...) {
			want := api.OK
			if i < 0 || i >= r.pages || r.at <= i && i < r.at+r.size {
				want = api.EINVAL
			}
			p, e := b.s.Read(i)
			if e != want || e != api.OK && p != (api.Page{}) || e == api.OK && p != d.d.Lasts(i) {
				t.Errorf("%v: Read(%d): %v, %d", r, i, p, e)
			}
			if e := b.put(t, i, full(9)); e != want {
				t.Errorf("%v: Put(%d): %d", r, i, e)
			}
			if want == api.OK {
				b.reads(t, i, full(9))
				b.told(t, "Put", 1, 0, false)
				b.drop(t)
			}
			b.told(t, "Drop", 0, 0, false)
		}
	}
}

// P6.1: in neither, in the step, in the group, in both.
func TestWhereAPageIsRead(t *testing.T) {
	p := filled(t, 20)
	was := p.d.Lasts(3)
	b := p.opened(t, 6, 7)
	b.reads(t, 3, was)
	b.puts(t, 1, 3)
	b.reads(t, 3, full(1))
	b.puts(t, 2, 3)
	b.reads(t, 3, full(2))
	b.told(t, "put twice", 1, 0, false)
	b.must(t, "Keep", b.keep(t))
	b.reads(t, 3, full(2))
	b.told(t, "in the group", 0, 1, false)
	b.puts(t, 4, 3)
	b.reads(t, 3, full(4))
	b.told(t, "in both", 1, 1, false)
	b.drop(t)
	b.reads(t, 3, full(2))
	b.lasts(t, 3, was)
	// a page of zeros is a page, too
	b.puts(t, 0, 3)
	b.reads(t, 3, api.Page{})
	b.must(t, "Keep", b.keep(t))
	b.reads(t, 3, api.Page{})
	b.lasts(t, 3, was)
	b.must(t, "Sync", b.sync(t))
	b.reads(t, 3, api.Page{})
	b.lasts(t, 3, api.Page{})
	b.told(t, "synced", 0, 0, false)
}

// P6.1: neither is written to the disk: it would be down.
func TestPutAndKeepWriteNothing(t *testing.T) {
	p := filled(t, 20)
	b := p.opened(t, 6, 7)
	b.fuse(0)
	b.kept(t, 1, 0, 5, 13)
	b.puts(t, 2, 0, 19)
	b.drop(t)
	b.puts(t, 3, 5, 14)
	b.must(t, "Keep", b.keep(t))
	b.told(t, "kept", 0, 4, false)
	if b.d.Down() || b.d.Cached() != 0 {
		t.Error("a Put, a Keep or a Drop spent the fuse")
	}
}

// rooms are regions, and disks that have more pages beside them than the room.
func rooms() []struct{ pages, at, size, room int } {
	return []struct{ pages, at, size, room int }{
		{6, 1, 3, 1}, {8, 0, 4, 2}, {12, 8, 4, 2}, {20, 6, 7, 5}, {80, 5, 34, 32}, {80, 5, 35, 32}, {80, 5, 36, 33}, {90, 5, 40, 37}, {400, 200, 150, 144}, {512, 0, 250, 241},
	}
}

// P6.1: as many pages as the room, in either order; one more; one that is in the step already.
func TestPutUpToTheRoom(t *testing.T) {
	for _, r := range rooms() {
		l := outside(r.at, r.size, min(r.room+2, r.pages-r.size))
		if len(l) <= r.room {
			t.Fatalf("%v: too few pages", r)
		}
		for _, order := range []int{0, 1} {
			if order == 1 {
				slices.Reverse(l)
			}
			b := filled(t, r.pages).opened(t, r.at, r.size)
			b.puts(t, 1, l[:r.room]...)
			b.told(t, "full", r.room, 0, false)
			for _, i := range l[r.room:] {
				was, _ := b.s.Read(i)
				if e := b.put(t, i, full(2)); e != api.ENOSPC {
					t.Errorf("%v: one more: %d", r, e)
				}
				b.reads(t, i, was)
			}
			for _, i := range []int{l[0], l[r.room/2], l[r.room-1]} {
				if e := b.put(t, i, full(3)); e != api.OK {
					t.Errorf("%v: one that is there: %d", r, e)
				}
				b.reads(t, i, full(3))
			}
			b.told(t, "full", r.room, 0, false)
			b.drop(t)
			if e := b.put(t, l[r.room], full(2)); e != api.OK {
				t.Errorf("%v: behind a Drop: %d", r, e)
			}
		}
	}
}

// P6.1: what the group has doesn't count in the step's room; a page that only the group has counts as one more.
func TestPutBesideAFullGroup(t *testing.T) {
	b := filled(t, 20).opened(t, 6, 7)
	b.kept(t, 1, 0, 1, 2, 3, 4)
	b.told(t, "group", 0, 5, false)
	b.puts(t, 2, 13, 14, 15, 16, 17)
	if e := b.put(t, 0, full(3)); e != api.ENOSPC {
		t.Errorf("one that is in the group alone: %d", e)
	}
	b.told(t, "both full", 5, 5, false)
}

// P6.1: a wrong page is asked ahead of the room, and that the store is over ahead of both.
func TestOrderOfErrors(t *testing.T) {
	wrong := []int{math.MinInt, -1, 6, 12, 20, math.MaxInt}
	b := filled(t, 20).opened(t, 6, 7)
	b.kept(t, 1, 1)
	b.puts(t, 2, 0, 1, 2, 3, 4)
	for _, i := range wrong {
		if e := b.put(t, i, full(3)); e != api.EINVAL {
			t.Errorf("Put(%d) into a full step: %d", i, e)
		}
	}
	if e := b.put(t, 5, full(3)); e != api.ENOSPC {
		t.Errorf("Put(5) into a full step: %d", e)
	}
	b.fuse(0)
	if e := b.sync(t); e != api.EIO || !b.s.Over() {
		t.Fatalf("Sync: %d", e)
	}
	for _, i := range append(wrong, 0, 1, 5, 13) {
		if e := b.put(t, i, full(3)); e != api.EIO {
			t.Errorf("Put(%d), over: %d", i, e)
		}
		if p, e := b.s.Read(i); e != api.EIO || p != (api.Page{}) {
			t.Errorf("Read(%d), over: %v, %d", i, p, e)
		}
	}
	b.told(t, "over", 5, 1, true)
}

// P6.1: a disk that is down without the store's doing: the store isn't over; what is in the step or the group is there, and nothing else; a wrong page is EINVAL still.
func TestADiskThatIsDown(t *testing.T) {
	p := filled(t, 20)
	was := p.d.Lasts(3)
	b := p.opened(t, 6, 7)
	b.kept(t, 1, 0, 1)
	b.puts(t, 2, 1, 2)
	b.down()
	b.like(t, "down")
	b.told(t, "down", 2, 2, false)
	b.reads(t, 0, full(1))
	b.reads(t, 1, full(2))
	b.reads(t, 2, full(2))
	if q, e := b.s.Read(3); e != api.EIO || q != (api.Page{}) {
		t.Errorf("Read(3): %v, %d", q, e)
	}
	for _, i := range []int{-1, 6, 12, 20} {
		if q, e := b.s.Read(i); e != api.EINVAL || q != (api.Page{}) {
			t.Errorf("Read(%d): %v, %d", i, q, e)
		}
	}
	b.must(t, "Put", b.put(t, 4, full(3)))
	b.must(t, "Keep", b.keep(t))
	b.told(t, "kept", 0, 4, false)
	b.crash()
	b.like(t, "up again")
	b.reads(t, 3, was)
	b.must(t, "Sync", b.sync(t))
	b.lasts(t, 4, full(3))
	b.kept(t, 5, 4)
	b.down()
	if e := b.sync(t); e != api.EIO || !b.s.Over() {
		t.Errorf("Sync: %d", e)
	}
}

// P6.1: of each room: a step that fits, to the last page; one that just fits, since pages are in both; one that doesn't, by one page.
func TestKeepAtTheRoomsEdge(t *testing.T) {
	for _, r := range rooms() {
		l := outside(r.at, r.size, r.room+1)
		for k := 0; k <= r.room; k++ { // so many pages are in the group ahead of it
			if k > 3 && k < r.room-3 {
				continue
			}
			b := filled(t, r.pages).opened(t, r.at, r.size)
			b.kept(t, 1, l[:k]...)
			b.told(t, "kept", 0, k, false)

			b.fuse(0)
			b.kept(t, 2, l[k:r.room]...)
			b.told(t, "all fit", 0, r.room, false)
			b.puts(t, 3, l[:r.room]...)
			b.must(t, "Keep", b.keep(t))
			b.told(t, "the same pages", 0, r.room, false)
			if b.d.Down() {
				t.Fatalf("%v: a Sync was done", r)
			}

			b.fuse(-1)
			was := b.d.Lasts(l[r.room])
			b.puts(t, 4, l[r.room])
			b.must(t, "Keep", b.keep(t))
			b.told(t, "one more", 0, 1, false)
			for _, i := range l[:r.room] {
				b.lasts(t, i, full(3))
			}
			b.lasts(t, l[r.room], was)
			b.reads(t, l[r.room], full(4))
		}
	}
}

// P6.1: a step of which some pages are in the group: all are counted once, and, if they don't fit, those of the group last as they were kept.
func TestKeepOfPagesInBoth(t *testing.T) {
	b := filled(t, 20).opened(t, 6, 7)
	b.kept(t, 1, 0, 1, 2, 3)
	b.fuse(0)
	b.kept(t, 2, 2, 3, 4)
	b.told(t, "just fits", 0, 5, false)
	b.reads(t, 1, full(1))
	b.reads(t, 2, full(2))
	b.fuse(-1)
	b.kept(t, 3, 0, 4, 5)
	b.told(t, "doesn't", 0, 3, false)
	for i, v := range []byte{1, 1, 2, 2, 2} {
		b.lasts(t, i, full(v))
	}
	b.reads(t, 0, full(3))
	b.reads(t, 3, full(2))
	b.must(t, "Sync", b.sync(t))
	for i, v := range []byte{3, 1, 2, 2, 3, 3} {
		b.lasts(t, i, full(v))
	}
}

// P6.1: a Keep whose Sync fails, at each of its steps: the step stays, and so does the group; the store is over.
func TestKeepWhoseSyncFails(t *testing.T) {
	const steps = 1 + 4 + 1 + 2 + 4 + 1 + 2
	for f := 0; f <= steps; f++ {
		b := filled(t, 20).opened(t, 6, 7)
		b.kept(t, 1, 0, 1, 2, 3)
		b.puts(t, 2, 3, 4, 5)
		b.fuse(f)
		e := b.keep(t)
		if f == steps {
			b.must(t, "Keep", e)
			b.told(t, "not broken off", 0, 3, false)
			continue
		}
		if e != api.EIO {
			t.Fatalf("fuse %d: %d", f, e)
		}
		b.told(t, "broken off", 3, 4, true)
		b.crash()
		if e := b.keep(t); e != api.EIO {
			t.Fatalf("Keep, over: %d", e)
		}
		b.told(t, "over", 3, 4, true)
	}
}

// P6.1: a Sync that fails, at each of its steps: the group stays, the store is over.
func TestSyncThatFails(t *testing.T) {
	for n := 1; n <= 5; n++ {
		steps := 1 + n + 1 + 2 + n + 1 + 2
		for f := 0; f <= steps; f++ {
			b := filled(t, 20).opened(t, 6, 7)
			b.kept(t, 1, outside(6, 7, n)...)
			b.puts(t, 2, 0, 19)
			b.fuse(f)
			if e := b.sync(t); (e == api.OK) != (f == steps) || f < steps && e != api.EIO {
				t.Fatalf("fuse %d: %d", f, e)
			}
			if f < steps {
				b.told(t, "broken off", 2, n, true)
			} else {
				b.told(t, "not broken off", 2, 0, false)
			}
		}
	}
}

// P6.1: there are no Seqs left: the journal's error, without the disk's doing.
func TestSyncAtTheLastSeqs(t *testing.T) {
	for left := range 4 {
		p := filled(t, 20)
		p.set(6, quiet(top-1-left))
		b := p.opened(t, 6, 7)
		b.kept(t, 1, 0, 19)
		e, want, group := b.sync(t), api.OK, 0
		if left < 2 {
			want, group = api.EIO, 2
		}
		if e != want || b.d.Down() {
			t.Errorf("%d Seqs left: %d", left, e)
		}
		b.told(t, "Sync", 0, group, left < 2)
	}
}

// P6.1: of nothing, on a disk that lets no step be done, and on one that is down.
func TestKeepAndSyncOfNothing(t *testing.T) {
	b := filled(t, 20).opened(t, 6, 7)
	nothing := func(what string, group int) {
		t.Helper()
		b.must(t, what, b.keep(t))
		b.told(t, what, 0, group, false)
		if group == 0 {
			b.must(t, what, b.sync(t))
			b.told(t, what, 0, 0, false)
		}
	}
	b.fuse(0)
	nothing("new", 0)
	b.kept(t, 1, 0, 1, 2, 3, 4)
	nothing("a full group", 5)
	if b.d.Down() {
		t.Fatal("a step was done")
	}
	b.fuse(-1)
	b.must(t, "Sync", b.sync(t))
	b.fuse(0)
	nothing("synced", 0)
	b.puts(t, 2, 0)
	b.drop(t)
	nothing("dropped", 0)
	if b.d.Down() {
		t.Fatal("a step was done")
	}
	b.down()
	nothing("down", 0)
	b.crash()
	nothing("up", 0)
	// a Sync with a step, and without a group, leaves the step
	b.puts(t, 3, 0, 1)
	b.fuse(0)
	b.must(t, "Sync", b.sync(t))
	b.told(t, "Sync", 2, 0, false)
}

// P6.1
func TestDrop(t *testing.T) {
	p := filled(t, 20)
	var was []api.Page
	for i := range 20 {
		was = append(was, p.d.Lasts(i))
	}
	b := p.opened(t, 6, 7)
	b.drop(t)
	b.puts(t, 1, 0, 1)
	b.drop(t)
	b.told(t, "without a group", 0, 0, false)
	b.reads(t, 0, was[0])
	b.must(t, "Keep", b.keep(t))
	b.told(t, "Keep behind a Drop", 0, 0, false)
	b.kept(t, 2, 0, 1)
	b.puts(t, 3, 1, 2)
	b.drop(t)
	b.told(t, "with a group", 0, 2, false)
	b.reads(t, 0, full(2))
	b.reads(t, 1, full(2))
	b.reads(t, 2, was[2])
	b.drop(t)
	b.told(t, "twice", 0, 2, false)
	b.must(t, "Sync", b.sync(t))
	b.puts(t, 4, 0)
	b.drop(t)
	b.reads(t, 0, full(2))
	b.lasts(t, 1, full(2))
	b.lasts(t, 2, was[2])
}

// numbers are those that lie behind a region's head.
func numbers(d *disk.Disk, at, n int) (l []int) {
	for i := range n {
		p := d.Lasts(at + 1 + i/32)
		l = append(l, int(binary.BigEndian.Uint16(p[2*(i%32):])))
	}
	return l
}

// P6.1: pages that were put in any order, in one step or more, are committed by their numbers, each with what it is.
func TestSyncByNumbers(t *testing.T) {
	for seed, r := range rooms() {
		c := chance(seed)
		l := outside(r.at, r.size, r.pages-r.size)
		for range 20 {
			some := c.shuffled(l)[:1+c.below(r.room)]
			b := filled(t, r.pages).opened(t, r.at, r.size)
			for k, i := range some {
				if b.s.Put(i, full(byte(i))) != api.OK || b.m.put(i, full(byte(i))) != api.OK {
					t.Fatalf("Put(%d)", i)
				}
				if k == len(some)/2 {
					b.must(t, "Keep", b.keep(t))
				}
			}
			b.must(t, "Keep", b.keep(t))
			b.must(t, "Sync", b.sync(t))
			slices.Sort(some)
			if got := numbers(b.d, r.at, len(some)); !slices.Equal(got, some) {
				t.Fatalf("committed as %v, not %v", got, some)
			}
			lists := (len(some) + 31) / 32
			for k, i := range some {
				b.lasts(t, i, full(byte(i)))
				b.lasts(t, r.at+1+lists+k, full(byte(i)))
			}
		}
	}
}

// P6.1: so are those that Keep commits.
func TestKeepCommitsByNumbers(t *testing.T) {
	b := filled(t, 20).opened(t, 6, 7)
	b.kept(t, 1, 19, 2)
	b.kept(t, 1, 14, 0, 5)
	b.kept(t, 2, 4)
	if got := numbers(b.d, 6, 5); !slices.Equal(got, []int{0, 2, 5, 14, 19}) {
		t.Errorf("committed as %v", got)
	}
}

// P6.1: what lasts behind each call, in the order of the chapter's examples.
func TestWhatLasts(t *testing.T) {
	p := filled(t, 20)
	was := p.d.Lasts(5)
	b := p.opened(t, 6, 7)
	reopened := func() {
		t.Helper()
		b.crash(64, 64, 64, 64)
		b = b.opened(t, 6, 7)
	}
	b.puts(t, 1, 5)
	b.drop(t)
	b.reads(t, 5, was)
	b.puts(t, 1, 5)
	b.lasts(t, 5, was)
	reopened()
	b.reads(t, 5, was)
	b.kept(t, 1, 5)
	b.reads(t, 5, full(1))
	b.lasts(t, 5, was)
	reopened()
	b.reads(t, 5, was)
	b.kept(t, 1, 5)
	b.puts(t, 2, 5, 0)
	b.must(t, "Sync", b.sync(t))
	b.told(t, "Sync", 2, 0, false)
	b.reads(t, 5, full(2))
	b.lasts(t, 5, full(1))
	reopened()
	b.reads(t, 5, full(1))
	b.told(t, "Open", 0, 0, false)
}

// P6.1: every call of a store that is over, though the disk is there again; Drop empties the step all the same.
func TestOver(t *testing.T) {
	for _, byKeep := range []bool{false, true} {
		b := filled(t, 20).opened(t, 6, 7)
		b.kept(t, 1, 0, 1, 2, 3, 4)
		b.puts(t, 2, 4, 5)
		b.fuse(3)
		e := api.OK
		if byKeep {
			e = b.keep(t)
		} else {
			e = b.sync(t)
		}
		if e != api.EIO {
			t.Fatalf("broken off: %d", e)
		}
		for _, up := range []bool{false, true} {
			if up {
				b.crash()
			}
			before := b.d.Cached()
			for _, i := range []int{-1, 0, 4, 5, 6, 13, 19, 20} {
				if p, e := b.s.Read(i); p != (api.Page{}) || e != api.EIO {
					t.Errorf("Read(%d): %v, %d", i, p, e)
				}
				if e := b.put(t, i, full(9)); e != api.EIO {
					t.Errorf("Put(%d): %d", i, e)
				}
			}
			if e := b.keep(t); e != api.EIO {
				t.Errorf("Keep: %d", e)
			}
			if e := b.sync(t); e != api.EIO {
				t.Errorf("Sync: %d", e)
			}
			b.told(t, "over", 2, 5, true)
			if b.d.Cached() != before || b.d.Down() == up {
				t.Error("something was done to the disk")
			}
		}
		b.drop(t)
		b.told(t, "Drop", 0, 5, true)
		for _, e := range []api.Errno{b.keep(t), b.sync(t)} {
			if e != api.EIO {
				t.Errorf("of nothing, over: %d", e)
			}
		}
		b.told(t, "over", 0, 5, true)
	}
}

// P6.1: a nil one is over, and so is one that Open didn't make.
func TestNil(t *testing.T) {
	for _, s := range []*store.Store{nil, {}} {
		for _, i := range []int{math.MinInt, -1, 0, 1, 511, 512, math.MaxInt} {
			if p, e := s.Read(i); p != (api.Page{}) || e != api.EIO {
				t.Errorf("Read(%d): %v, %d", i, p, e)
			}
			if e := s.Put(i, full(1)); e != api.EIO {
				t.Errorf("Put(%d): %d", i, e)
			}
		}
		s.Drop()
		if e := s.Keep(); e != api.EIO {
			t.Errorf("Keep: %d", e)
		}
		if e := s.Sync(); e != api.EIO {
			t.Errorf("Sync: %d", e)
		}
		if s.Step() != 0 || s.Group() != 0 || !s.Over() {
			t.Errorf("Step %d, Group %d, Over %v", s.Step(), s.Group(), s.Over())
		}
	}
}

// P6.1: two stores have nothing in common but a disk, if it is one.
func TestTwoStores(t *testing.T) {
	d, other := made(t, 20), made(t, 20)
	a, _ := store.Open(d, 0, 4)
	b, _ := store.Open(d, 4, 4)
	c, _ := store.Open(other, 0, 4)
	for k, s := range []*store.Store{a, b, c} {
		if s.Put(10, full(byte(k+1))) != api.OK || s.Keep() != api.OK || s.Put(11, full(byte(k+1))) != api.OK {
			t.Fatal("Put")
		}
	}
	for k, s := range []*store.Store{a, b, c} {
		if p, _ := s.Read(10); p != full(byte(k+1)) || s.Step() != 1 || s.Group() != 1 {
			t.Errorf("store %d: %v, %d, %d", k, p, s.Step(), s.Group())
		}
	}
	if a.Sync() != api.OK || d.Lasts(10) != full(1) || other.Lasts(10) != (api.Page{}) || b.Group() != 1 || c.Group() != 1 {
		t.Error("Sync")
	}
	d.Fuse(0)
	if b.Sync() != api.EIO || !b.Over() || a.Over() || c.Over() {
		t.Error("one that is over")
	}
}

// call does a call of chance on both sides, or something to both disks.
func (b sides) call(t *testing.T, c *chance, room int) {
	t.Helper()
	switch k := c.below(20); {
	case k < 12:
		b.put(t, c.below(b.d.Pages()+4)-2, c.page())
	case k < 15:
		b.keep(t)
	case k < 16:
		b.drop(t)
	case k < 18:
		b.sync(t)
	case k < 19:
		b.fuse(c.below(4*room+12) - 2)
	default:
		b.crash(c.bytes(c.below(room + 4))...)
		b.like(t, "Crash")
	}
}

// P6.1: calls in every order, with fuses and crashes between them; a store that is over is used on for a while, and opened again.
func TestCallsInEveryOrder(t *testing.T) {
	var opens, refused, overs, syncs int
	for seed := range 150 {
		c := chance(seed + 7)
		n := 5 + c.below(26)
		size := 3 + c.below(min(n-4, 9))
		at := c.below(n - size + 1)
		p := filled(t, n)
		b := sides{pair: p}
		for range 250 {
			if b.s.Over() && c.below(4) == 0 {
				if b.d.Down() {
					b.crash(c.bytes(c.below(n))...)
					b.fuse(c.below(40) - 20)
				}
				next, e := b.open(t, fmt.Sprint("seed ", seed), at, size)
				if e != api.OK {
					refused++
				}
				b = next
				opens++
			}
			over, group := b.s.Over(), b.s.Group()
			b.call(t, &c, journal.Room(size))
			if !over && b.s.Over() {
				overs++
			}
			if b.s.Group() < group {
				syncs++
			}
		}
	}
	if opens < 100 || refused < 20 || overs < 100 || syncs < 500 {
		t.Errorf("too little was done: %d Opens, %d of them refused, %d stores over, %d Syncs", opens, refused, overs, syncs)
	}
}

// P6.1: every order of a few calls, up to six of them, on a store with room for two.
func TestAllShortOrders(t *testing.T) {
	acts := []func(b sides){
		func(b sides) { b.put(t, 0, full(byte(1+b.s.Step()*10+b.s.Group()))) },
		func(b sides) { b.put(t, 1, full(byte(101+b.s.Step()*10+b.s.Group()))) },
		func(b sides) { b.put(t, 6, full(byte(201+b.s.Step()*10+b.s.Group()))) },
		func(b sides) { b.keep(t) },
		func(b sides) { b.drop(t) },
		func(b sides) { b.sync(t) },
	}
	orders := 1
	for range 6 {
		orders *= len(acts)
	}
	for order := range orders {
		b := filled(t, 7).opened(t, 2, 4)
		for k := order; k > 0; k /= len(acts) {
			acts[k%len(acts)](b)
		}
	}
}
