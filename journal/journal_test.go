package journal_test

import (
	"fmt"
	"math"
	"slices"
	"testing"

	"narthex/api"
	"narthex/disk"
	"narthex/head"
	"narthex/journal"
)

// P5.1
func TestRoomKnown(t *testing.T) {
	for _, c := range []struct{ size, room int }{
		{math.MinInt, 0}, {math.MinInt + 1, 0}, {math.MinInt32, 0}, {-33, 0}, {-1, 0}, {0, 0}, {1, 0}, {2, 0},
		{3, 1}, {4, 2}, {8, 6}, {33, 31}, {34, 32}, {35, 32}, {36, 33}, {40, 37},
		{67, 64}, {68, 64}, {69, 65}, {495, 479}, {496, 480}, {497, 480}, {498, 481}, {512, 495},
		{528, 511}, {529, 512}, {530, 512}, {531, 512}, {562, 512}, {math.MaxInt32, 512}, {math.MaxUint32 + 3, 512}, {math.MaxInt - 1, 512}, {math.MaxInt, 512},
	} {
		if n := journal.Room(c.size); n != c.room {
			t.Errorf("Room(%d) is %d, not %d", c.size, n, c.room)
		}
	}
}

// P5.1
func TestRoomOfEachSize(t *testing.T) {
	for size := -600; size <= 2000; size++ {
		if n := journal.Room(size); n != roomOf(size) {
			t.Errorf("Room(%d) is %d, not %d", size, n, roomOf(size))
		}
	}
}

func wantOpen(t *testing.T, what string, d *disk.Disk, at, size int, want api.Errno) {
	t.Helper()
	if j, n, e := journal.Open(d, at, size); j != nil || n != 0 || e != want {
		t.Errorf("%s: Open(%d, %d): %v, %d and %d, not nil, 0 and %d", what, at, size, j, n, e, want)
	}
}

// wrongRegions of a disk of that many pages, at least 3: on either side of each edge.
func wrongRegions(pages int) (l [][2]int) {
	for _, size := range []int{math.MinInt, math.MinInt + 1, -1, 0, 1, 2} {
		for _, at := range []int{math.MinInt, -1, 0, 1, pages - 1, pages, math.MaxInt} {
			l = append(l, [2]int{at, size})
		}
	}
	for _, size := range []int{3, 4, pages - 1, pages, pages + 1, 512, 513, 529, math.MaxInt - 1, math.MaxInt} {
		for _, at := range []int{math.MinInt, math.MinInt + size, -size, -3, -1, pages - size + 1, pages - 2, pages, pages + 1, 512, math.MaxInt - size + 1, math.MaxInt - 2, math.MaxInt} {
			if size >= 3 && (at < 0 || at > pages-size) {
				l = append(l, [2]int{at, size})
			}
		}
	}
	return append(l, [2]int{0, pages + 1}, [2]int{1, pages}, [2]int{0, math.MaxInt}, [2]int{1, math.MaxInt})
}

// P5.1: that the disk is down is asked ahead of the region.
func TestOpenOfNoDisk(t *testing.T) {
	wantOpen(t, "nil", nil, 0, 8, api.EIO)
	d := made(t, 10)
	d.Fuse(0)
	d.Flush()
	wantOpen(t, "down", d, 0, 8, api.EIO)
	for _, r := range wrongRegions(10) {
		wantOpen(t, "nil", nil, r[0], r[1], api.EIO)
		wantOpen(t, "down", d, r[0], r[1], api.EIO)
	}
	d.Crash()
	if j, n, e := journal.Open(d, 0, 8); j == nil || n != 0 || e != api.OK {
		t.Errorf("behind a crash: %v, %d, %d", j, n, e)
	}
	for _, r := range append(wrongRegions(10), [2]int{0, 8}) {
		wantOpen(t, "a disk that New didn't make", &disk.Disk{}, r[0], r[1], api.EINVAL)
	}
}

// P5.1: nothing is done, not even a step that is refused: the disk would be down.
func TestOpenOfWrongRegions(t *testing.T) {
	for _, pages := range []int{3, 4, 10, 511, 512} {
		p := filled(t, pages)
		p.fuse(0)
		for _, r := range wrongRegions(pages) {
			wantOpen(t, fmt.Sprint("of ", pages), p.d, r[0], r[1], api.EINVAL)
		}
		p.same(t, "wrong regions")
	}
}

// P5.1: each region of a small disk, that holds changes or doesn't, lies in it or doesn't.
func TestOpenOfEachRegion(t *testing.T) {
	for pages := 1; pages <= 9; pages++ {
		for at := -3; at <= pages+2; at++ {
			for size := -2; size <= pages+2; size++ {
				p := pair{made(t, pages), made(t, pages)}
				_, n, e := p.open(t, "each region", at, size)
				right := size >= 3 && at >= 0 && at+size <= pages
				if n != 0 || (e == api.OK) != right || !right && e != api.EINVAL {
					t.Errorf("Open(%d, %d) of %d pages: %d and %d", at, size, pages, n, e)
				}
			}
		}
	}
}

// P5.1: a whole page that isn't Live, or one that isn't whole: Seq is 1 more than the greatest number at either end, and no other page is written.
func TestOpenOfHeadsThatDoNotCount(t *testing.T) {
	p := headPage(7, true, 2, 99)
	mixed := func(front, back int) api.Page {
		q := headPage(front, true, 1, 0)
		b := quiet(back)
		copy(q[60:], b[60:])
		return q
	}
	odd := quiet(500)
	odd[30] = 1
	two := headPage(40, true, 1, 0)
	two[4] = 2
	for _, c := range []struct {
		name string
		page api.Page
		seq  int
	}{
		{"zero", api.Page{}, 1},
		{"not Live", quiet(1), 2},
		{"not Live", quiet(0xFF), 0x100},
		{"not Live", quiet(0x7FFFFFFF), 0x80000000},
		{"not Live, the last but one", quiet(top - 1), top},
		{"the front is greater", mixed(9, 3), 10},
		{"the back is greater", mixed(3, 9), 10},
		{"the back is the last but one", mixed(3, top-1), top},
		{"a byte that must be 0", odd, 501},
		{"neither Live nor not", two, 41},
		{"not Live, with a Count", headPage(60, false, 1, 0), 61},
		{"not Live, with a Sum", headPage(60, false, 0, 1), 61},
		{"Live, without a Count", headPage(60, true, 0, 0), 61},
		{"Live, with a Count of 513", headPage(60, true, 513, 0), 61},
		{"Live, with the greatest Count", headPage(60, true, 65535, 0), 61},
		{"all bytes 5", full(5), 0x05050506},
	} {
		for at := range 3 {
			both := filled(t, 10)
			both.set(at, c.page)
			_, n, e := both.open(t, c.name, at, 8)
			h, ok := head.Decode(both.d.Lasts(at))
			if n != 0 || e != api.OK || !ok || h != (head.Head{Seq: c.seq}) || both.d.Cached() != 0 {
				t.Errorf("%s: %d, %d, %v, %v", c.name, n, e, h, ok)
			}
		}
	}
	for i := range p {
		for bit := range 8 {
			q := p
			q[i] ^= 1 << bit
			if _, whole := head.Decode(q); whole {
				continue
			}
			both := filled(t, 10)
			both.set(1, q)
			both.opened(t, fmt.Sprint("a head with byte ", i, " changed"), 1, 8)
		}
	}
}

// P5.1: a Seq above 2^32 less 1 is refused; there is nothing ahead of that head to be written.
func TestOpenAtTheLastSeq(t *testing.T) {
	torn := quiet(3)
	copy(torn[60:], []byte{0xFF, 0xFF, 0xFF, 0xFF})
	front := quiet(3)
	copy(front[:], []byte{0xFF, 0xFF, 0xFF, 0xFF})
	for _, q := range []api.Page{quiet(top), torn, front, full(0xFF)} {
		p := filled(t, 10)
		p.set(1, q)
		p.fuse(0)
		wantOpen(t, "the last Seq", p.d, 1, 8, api.EIO)
		p.same(t, "the last Seq")
	}
}

// P5.1: the changes are made, and flushed, though there is no Seq for the head behind them: each Open is refused, and does the same again.
func TestOpenOfLiveHeadAtTheLastSeq(t *testing.T) {
	c := chance(3)
	p := filled(t, 20)
	l := c.changed(20, 4, 9, 3)
	p.lay(4, l)
	p.set(4, livePage(top, l))
	for range 2 {
		wantOpen(t, "the last Seq", p.d, 4, 9, api.EIO)
		if p.d.Down() || p.d.Cached() != 0 || p.d.Lasts(4) != livePage(top, l) {
			t.Errorf("down %v, cached %d, head %v", p.d.Down(), p.d.Cached(), p.d.Lasts(4))
		}
		for _, c := range l {
			if p.d.Lasts(c.At) != c.Page {
				t.Errorf("page %d wasn't made", c.At)
			}
			p.d.Write(c.At, full(1))
			p.d.Flush()
		}
	}
	// the last but one has a head behind it
	p.set(4, livePage(top-1, l))
	s, n, e := p.open(t, "the last Seq but one", 4, 9)
	if n != 3 || e != api.OK || s.d.Lasts(4) != quiet(top) {
		t.Errorf("the last Seq but one: %d, %d, %v", n, e, s.d.Lasts(4))
	}
}

// P5.1: a Live head, all of it right, of each number of changes: they are made, wherever the region lies.
func TestOpenMakesChanges(t *testing.T) {
	for _, r := range []struct{ pages, at, size int }{
		{6, 0, 3}, {6, 3, 3}, {20, 4, 9}, {80, 0, 40}, {80, 40, 40}, {140, 70, 68}, {140, 2, 69}, {512, 100, 250},
	} {
		c := chance(r.pages + r.at)
		for n := 1; n <= roomOf(r.size); n++ {
			if n > 3 && n < 31 || n > 65 && n < roomOf(r.size)-1 {
				continue
			}
			p := filled(t, r.pages)
			l := c.changed(r.pages, r.at, r.size, n)
			if len(l) < n {
				break
			}
			p.lay(r.at, l)
			p.set(r.at, livePage(1000+n, l))
			s, done, e := p.open(t, "Live", r.at, r.size)
			if done != n || e != api.OK || s.d.Lasts(r.at) != quiet(1001+n) || s.d.Cached() != 0 {
				t.Errorf("%d changes: %d, %d, %v", n, done, e, s.d.Lasts(r.at))
			}
			for _, c := range l {
				if s.d.Lasts(c.At) != c.Page {
					t.Errorf("%d changes: page %d isn't made", n, c.At)
				}
			}
		}
	}
}

// P5.1: what lies as a change is taken as it lies: a page that is there twice is what is written last; what stands behind the last number is no number, and counts in the sum alone.
func TestOpenTakesWhatLies(t *testing.T) {
	p := filled(t, 20)
	l := []journal.Change{{At: 15, Page: full(1)}, {At: 0, Page: full(2)}, {At: 15, Page: full(3)}}
	p.lay(4, l)
	p.set(4, livePage(9, l))
	if s, n, e := p.open(t, "twice", 4, 9); n != 3 || e != api.OK || s.d.Lasts(15) != full(3) || s.d.Lasts(0) != full(2) {
		t.Errorf("twice: %d, %d, %v", n, e, s.d.Lasts(15))
	}
	b := laidBytes(l)
	b[6], b[7] = 0xFF, 0xFF
	p.set(5, api.Page(b[:64]))
	p.set(4, headPage(9, true, 3, sumOf(b)))
	if _, n, e := p.open(t, "filled up otherwise", 4, 9); n != 3 || e != api.OK {
		t.Errorf("filled up otherwise: %d, %d", n, e)
	}
	p.set(4, headPage(9, true, 3, sumOf(laidBytes(l))))
	p.fuse(0)
	wantOpen(t, "the sum without what is filled up", p.d, 4, 9, api.EIO)
	p.same(t, "the sum without what is filled up")
}

// wantSpoilt opens a region that is spoilt: EIO, and nothing is done, not even a step that is refused.
func wantSpoilt(t *testing.T, what string, p pair, at, size int) {
	t.Helper()
	p.fuse(0)
	wantOpen(t, what, p.d, at, size, api.EIO)
	if _, _, e := modelOpen(p.twin, at, size); e != api.EIO {
		t.Fatalf("%s: the model takes it", what)
	}
	p.same(t, what)
}

// P5.1
func TestOpenOfCountAboveRoom(t *testing.T) {
	c := chance(8)
	for _, count := range []int{8, 9, 33, 511, 512} {
		p := filled(t, 20)
		l := c.changed(20, 4, 9, 7)
		p.lay(4, l)
		p.set(4, headPage(3, true, count, sumOf(laidBytes(l))))
		wantSpoilt(t, fmt.Sprint("Count ", count), p, 4, 9)
	}
	// what would be one change more lies there, right, behind the region's end
	p := filled(t, 40)
	l := c.changed(40, 4, 20, 8)
	p.lay(4, l)
	p.set(4, livePage(3, l))
	wantSpoilt(t, "a change behind the region's end", p, 4, 9)
	if s, n, e := p.clone(t).open(t, "the greater region", 4, 10); n != 8 || e != api.OK {
		t.Errorf("the greater region: %v, %d, %d", s.j, n, e)
	}
	// a region at the disk's end
	p = filled(t, 20)
	p.set(11, headPage(3, true, 8, 0))
	wantSpoilt(t, "at the disk's end", p, 11, 9)
}

// clone is two disks with what lasts of these.
func (p pair) clone(t *testing.T) pair {
	t.Helper()
	q := pair{made(t, p.d.Pages()), made(t, p.d.Pages())}
	for i := range p.d.Pages() {
		q.set(i, p.d.Lasts(i))
	}
	return q
}

// P5.1: a number that is none of the disk's pages, or one of the region's, at each place, with a right sum.
func TestOpenOfWrongNumbers(t *testing.T) {
	c := chance(9)
	for _, n := range []int{1, 2, 32, 33, 37} {
		for place := range n {
			if place > 1 && place < 30 {
				continue
			}
			for _, at := range []int{80, 81, 255, 256, 512, 0x8000, 65535, 10, 11, 12, 30, 48, 49} {
				p := filled(t, 80)
				l := c.changed(80, 10, 40, n)
				l[place].At = at
				p.lay(10, l)
				p.set(10, livePage(3, l))
				wantSpoilt(t, fmt.Sprint("number ", at), p, 10, 40)
			}
			for _, at := range []int{9, 50, 0, 79} {
				p := filled(t, 80)
				l := c.changed(80, 10, 40, n)
				l[place].At = at
				p.lay(10, l)
				p.set(10, livePage(3, l))
				if _, done, e := p.open(t, "beside the region", 10, 40); done != n || e != api.OK {
					t.Errorf("number %d: %d, %d", at, done, e)
				}
			}
		}
	}
}

// P5.1: another sum in the head, or a byte that is another one in each page that lies.
func TestOpenOfAnotherSum(t *testing.T) {
	c := chance(10)
	l := c.changed(80, 10, 40, 33)
	right := sumOf(laidBytes(l))
	for _, sum := range []uint32{0, right + 1, right - 1, right ^ 0x80000000, right + 0x10000, math.MaxUint32} {
		p := filled(t, 80)
		p.lay(10, l)
		p.set(10, headPage(3, true, 33, sum))
		wantSpoilt(t, fmt.Sprint("sum ", sum), p, 10, 40)
	}
	for i := range 2 + 33 {
		for _, b := range []int{0, 1, 31, 63} {
			p := filled(t, 80)
			p.lay(10, l)
			p.set(10, livePage(3, l))
			q := p.d.Lasts(11 + i)
			q[b]++
			p.set(11+i, q)
			wantSpoilt(t, fmt.Sprintf("byte %d of page %d", b, i), p, 10, 40)
		}
	}
	// what isn't laid down counts for nothing
	p := filled(t, 80)
	p.lay(10, l)
	p.set(10, livePage(3, l))
	p.set(10+1+2+33, full(9))
	if _, n, e := p.open(t, "behind the changes", 10, 40); n != 33 || e != api.OK {
		t.Errorf("behind the changes: %d, %d", n, e)
	}
	// fewer changes than lie there: the sum is another one
	p = filled(t, 80)
	p.lay(10, l)
	p.set(10, headPage(3, true, 32, right))
	wantSpoilt(t, "a change less", p, 10, 40)
}

// P5.1: Open reads what isn't flushed yet, too, and lets it last.
func TestOpenOfWhatIsNotFlushed(t *testing.T) {
	c := chance(11)
	p := filled(t, 20)
	p.set(4, quiet(3))
	l := c.changed(20, 4, 9, 2)
	p.both(func(d *disk.Disk) {
		for _, s := range laySteps(4, l)[:3] {
			d.Write(s.at, s.page)
		}
		d.Write(4, livePage(70, l))
		d.Write(1, full(9))
	})
	if s, n, e := p.open(t, "not flushed", 4, 9); n != 2 || e != api.OK || s.d.Lasts(4) != quiet(71) || s.d.Lasts(1) != full(9) {
		t.Errorf("not flushed: %d, %d, %v", n, e, s.d.Lasts(4))
	}
}

// P5.1: an Open that is broken off at each step: the disk is as the steps ahead of it made it.
func TestOpenIsBrokenOff(t *testing.T) {
	c := chance(12)
	few, many := c.changed(80, 10, 40, 3), c.changed(80, 10, 40, 33)
	torn := quiet(30)
	torn[0] = 1
	for _, k := range []struct {
		name  string
		l     []journal.Change
		head  api.Page
		steps int
	}{
		{"not Live", few, quiet(4), 2},
		{"not whole", few, torn, 2},
		{"Live", few, livePage(4, few), 6},
		{"Live, of many", many, livePage(4, many), 36},
		{"Live, at the last Seq", few, livePage(top, few), 4},
	} {
		for f := range k.steps + 3 {
			p := filled(t, 80)
			p.lay(10, k.l)
			p.set(10, k.head)
			p.fuse(f)
			what := fmt.Sprintf("%s, fuse %d", k.name, f)
			_, _, e := p.open(t, what, 10, 40)
			if p.d.Down() != (f < k.steps) || (e == api.OK) != (f >= k.steps && k.head != livePage(top, few)) {
				t.Errorf("%s: %d, down %v", what, e, p.d.Down())
			}
			p.crash(64, 3, 64)
			p.same(t, what+", and a crash")
		}
	}
}

// P5.1: which page has which bytes, written out.
func TestCommitByteByByte(t *testing.T) {
	d := made(t, 400)
	j, n, e := journal.Open(d, 2, 8)
	if n != 0 || e != api.OK || j.Room() != 6 || j.Over() {
		t.Fatal(n, e)
	}
	want := func(what string, i int, bytes map[int]byte) {
		t.Helper()
		var p api.Page
		for at, b := range bytes {
			p[at] = b
		}
		if d.Lasts(i) != p {
			t.Errorf("%s: page %d is %v, not %v", what, i, d.Lasts(i), p)
		}
	}
	want("opened", 2, map[int]byte{3: 1, 63: 1})
	l := []journal.Change{{At: 300, Page: api.Page{5, 6}}, {At: 0, Page: api.Page{7}}, {At: 15, Page: api.Page{63: 8}}}
	// a page of numbers, three pages, a flush, the head, a flush
	d.Fuse(7)
	if e := j.Commit(l...); e != api.EIO || !j.Over() {
		t.Fatal(e)
	}
	d.Crash(64, 64, 64)
	want("laid down", 3, map[int]byte{0: 1, 1: 44, 5: 15})
	want("laid down", 4, map[int]byte{0: 5, 1: 6})
	want("laid down", 5, map[int]byte{0: 7})
	want("laid down", 6, map[int]byte{63: 8})
	want("laid down", 7, nil)
	want("laid down", 0, nil)
	want("laid down", 15, nil)
	want("laid down", 300, nil)
	// a is all bytes: 1, 44, 15, 5, 6, 7 and 8; b counts each as often as there are bytes from it on, of 256
	a, b := 1+44+15+5+6+7+8, 1*256+44*255+15*251+5*192+6*191+7*128+8*1
	want("laid down", 2, map[int]byte{3: 2, 4: 1, 6: 3, 7: byte(b >> 8), 8: byte(b), 9: byte(a >> 8), 10: byte(a), 63: 2})
	if j, n, e = journal.Open(d, 2, 8); n != 3 || e != api.OK {
		t.Fatal(n, e)
	}
	want("made", 0, map[int]byte{0: 7})
	want("made", 15, map[int]byte{63: 8})
	want("made", 300, map[int]byte{0: 5, 1: 6})
	want("made", 2, map[int]byte{3: 3, 63: 3})
	if e := j.Commit(journal.Change{At: 258, Page: api.Page{1}}); e != api.OK || d.Cached() != 0 {
		t.Fatal(e)
	}
	want("once more", 2, map[int]byte{3: 5, 63: 5})
	want("once more", 3, map[int]byte{0: 1, 1: 2})
	want("once more", 4, map[int]byte{0: 1})
	want("once more", 5, map[int]byte{0: 7})
	want("once more", 258, map[int]byte{0: 1})
}

// P5.1: of each number of changes up to the room, and one more; what lies, and where, behind each.
func TestCommitOfEachNumber(t *testing.T) {
	for _, r := range []struct{ pages, at, size int }{
		{6, 0, 3}, {6, 3, 3}, {20, 4, 9}, {80, 0, 40}, {80, 40, 40}, {200, 66, 68}, {200, 2, 69}, {512, 100, 200}, {512, 10, 500},
	} {
		c := chance(r.pages + r.size)
		p := filled(t, r.pages)
		p.set(r.at, quiet(100))
		s := p.opened(t, "each number", r.at, r.size)
		room, others := roomOf(r.size), r.pages-r.size
		seq := 101
		for n := 0; n <= min(room+1, others); n++ {
			l := c.changed(r.pages, r.at, r.size, n)
			e := s.commit(t, fmt.Sprint(n, " changes"), l...)
			switch {
			case n > room:
				if e != api.ENOSPC {
					t.Errorf("%d changes in %d pages: %d", n, r.size, e)
				}
				continue
			case e != api.OK:
				t.Fatalf("%d changes in %d pages: %d", n, r.size, e)
			case n > 0:
				seq += 2
			}
			if s.d.Lasts(r.at) != quiet(seq) || s.d.Cached() != 0 {
				t.Errorf("%d changes: the head is %v, cached %d", n, s.d.Lasts(r.at), s.d.Cached())
			}
			for _, c := range l {
				if s.d.Lasts(c.At) != c.Page {
					t.Errorf("%d changes: page %d isn't made", n, c.At)
				}
			}
		}
	}
}

// P5.1: 32 and 33 changes take one and two pages of numbers.
func TestCommitOfPagesOfNumbers(t *testing.T) {
	for _, k := range []struct{ n, lists int }{{1, 1}, {31, 1}, {32, 1}, {33, 2}, {64, 2}, {65, 3}} {
		c := chance(k.n)
		p := filled(t, 512)
		s := p.opened(t, "pages of numbers", 0, 100)
		was := p.d.Lasts(1 + k.lists + k.n)
		l := c.changed(512, 0, 100, k.n)
		if e := s.commit(t, "pages of numbers", l...); e != api.OK {
			t.Fatal(e)
		}
		last := p.d.Lasts(k.lists)
		i := (k.n - 1) % 32
		if int(last[2*i])*256+int(last[2*i+1]) != l[k.n-1].At {
			t.Errorf("%d changes: the last number isn't where it belongs", k.n)
		}
		for _, b := range last[2*i+2:] {
			if b != 0 {
				t.Errorf("%d changes: the last page of numbers isn't filled up with 0", k.n)
			}
		}
		if p.d.Lasts(1+k.lists) != l[0].Page || p.d.Lasts(k.lists+k.n) != l[k.n-1].Page || p.d.Lasts(1+k.lists+k.n) != was {
			t.Errorf("%d changes: the pages don't lie behind %d pages of numbers", k.n, k.lists)
		}
	}
}

// P5.1: of an At that may not be, whatever else there is: more than the room, a disk that is down, a fuse that is spent; nothing is done, and the journal isn't over.
func TestCommitOfWrongPages(t *testing.T) {
	for _, at := range []int{20, 21, 255, 512, 65536, 65536 + 1, math.MaxInt, -1, -20, math.MinInt, 4, 5, 8, 12} {
		for _, n := range []int{1, 2, 7, 8, 9} {
			for place := range n {
				c := chance(n)
				p := filled(t, 20)
				s := p.opened(t, "wrong pages", 4, 9)
				l := c.changed(20, 4, 9, n)
				l[place].At = at
				p.fuse(0)
				if e := s.commit(t, "a wrong page", l...); e != api.EINVAL || p.d.Down() || s.j.Over() {
					t.Errorf("At %d, %d of %d: %d", at, place, n, e)
				}
				p.both(func(d *disk.Disk) { d.Flush() })
				if e := s.commit(t, "a wrong page, down", l...); e != api.EINVAL || s.j.Over() {
					t.Errorf("At %d, %d of %d, down: %d", at, place, n, e)
				}
			}
		}
	}
}

// P5.1: a page that is there twice, at each two places, with the same content or another one.
func TestCommitOfPageTwice(t *testing.T) {
	c := chance(20)
	p := filled(t, 20)
	s := p.opened(t, "twice", 4, 9)
	p.fuse(0)
	for n := 2; n <= 9; n++ {
		for b := range n {
			for a := range b {
				l := c.changed(20, 4, 9, n)
				l[b].At = l[a].At
				if e := s.commit(t, "twice", l...); e != api.EINVAL {
					t.Errorf("%d and %d of %d: %d", a, b, n, e)
				}
				l[b].Page = l[a].Page
				if e := s.commit(t, "twice the same", l...); e != api.EINVAL {
					t.Errorf("%d and %d of %d, the same: %d", a, b, n, e)
				}
			}
		}
	}
	if p.d.Down() || s.j.Over() {
		t.Error("a step was done")
	}
	p.fuse(-1)
	if e := s.commit(t, "the edges", journal.Change{At: 0}, journal.Change{At: 3}, journal.Change{At: 13}, journal.Change{At: 19}); e != api.OK {
		t.Errorf("each page beside an edge: %d", e)
	}
}

// P5.1: more than the room: nothing is done, also while the disk is down; the journal isn't over.
func TestCommitOfTooMany(t *testing.T) {
	c := chance(21)
	p := filled(t, 60)
	s := p.opened(t, "too many", 4, 9)
	p.fuse(0)
	for _, n := range []int{8, 9, 33, 51} {
		if e := s.commit(t, "too many", c.changed(60, 4, 9, n)...); e != api.ENOSPC || p.d.Down() {
			t.Errorf("%d changes: %d", n, e)
		}
	}
	p.both(func(d *disk.Disk) { d.Flush() })
	if e := s.commit(t, "too many, down", c.changed(60, 4, 9, 8)...); e != api.ENOSPC || s.j.Over() {
		t.Errorf("down: %d", e)
	}
	if e := s.commit(t, "as many as the room, down", c.changed(60, 4, 9, 7)...); e != api.EIO || !s.j.Over() {
		t.Errorf("as many as the room, down: %d", e)
	}
	p.crash()
	if e := s.commit(t, "over", c.changed(60, 4, 9, 8)...); e != api.EIO {
		t.Errorf("over: %d", e)
	}
}

// P5.1: of none: OK, also while the disk is down; it is EIO only if the journal is over.
func TestCommitOfNone(t *testing.T) {
	p := filled(t, 20)
	s := p.opened(t, "none", 4, 9)
	p.fuse(0)
	var none []journal.Change
	ask := func(what string, want api.Errno) {
		t.Helper()
		for _, l := range [][]journal.Change{nil, none, {}} {
			if e := s.commit(t, what, l...); e != want {
				t.Errorf("%s: %d", what, e)
			}
		}
	}
	ask("a spent fuse", api.OK)
	if p.d.Down() {
		t.Error("a step was done")
	}
	p.both(func(d *disk.Disk) { d.Flush() })
	ask("down", api.OK)
	if e := s.commit(t, "down", journal.Change{At: 0}); e != api.EIO {
		t.Errorf("down: %d", e)
	}
	ask("over", api.EIO)
	p.crash()
	ask("over, behind a crash", api.EIO)
}

// P5.1: a journal that is over stays so, whatever is asked, and whatever becomes of the disk; it is asked first, and nothing is done. Another Open is another journal.
func TestOver(t *testing.T) {
	p := filled(t, 20)
	s := p.opened(t, "over", 4, 9)
	p.fuse(1)
	if e := s.commit(t, "broken off", journal.Change{At: 0, Page: full(1)}); e != api.EIO || !s.j.Over() || s.j.Room() != 7 {
		t.Fatal(e)
	}
	p.crash()
	other := p.opened(t, "another one", 4, 9)
	p.fuse(0)
	for _, l := range [][]journal.Change{nil, {{At: 0}}, {{At: 4}}, {{At: -1}}, {{At: 0}, {At: 0}}, make([]journal.Change, 30)} {
		if e := s.commit(t, "over", l...); e != api.EIO || p.d.Down() {
			t.Errorf("over: %d", e)
		}
	}
	p.fuse(-1)
	if e := other.commit(t, "another one", journal.Change{At: 0, Page: full(1)}); e != api.OK || other.j.Over() || !s.j.Over() || s.j.Room() != 7 {
		t.Errorf("another one: %d", e)
	}
}

// P5.1: a disk that went down and came back between two Commits, and pages that others write, don't make a journal over; what waits is flushed with the Commit.
func TestCommitBetweenCrashes(t *testing.T) {
	p := filled(t, 20)
	s := p.opened(t, "between crashes", 4, 9)
	p.fuse(1)
	p.both(func(d *disk.Disk) {
		d.Write(1, full(5))
		d.Flush()
	})
	p.crash(30)
	if e := s.commit(t, "behind a crash", journal.Change{At: 0, Page: full(1)}); e != api.OK {
		t.Errorf("behind a crash: %d", e)
	}
	p.both(func(d *disk.Disk) {
		d.Write(2, full(6))
		d.Write(4, full(7)) // the head, too: the journal goes on with its own Seq
	})
	if e := s.commit(t, "others write", journal.Change{At: 0, Page: full(2)}); e != api.OK || p.d.Lasts(2) != full(6) {
		t.Errorf("others write: %d", e)
	}
	if h, ok := head.Decode(p.d.Lasts(4)); !ok || h.Seq != s.m.seq {
		t.Errorf("others write: %v, %v", h, ok)
	}
}

// P5.1: a Seq above 2^32 less 1: the steps ahead of that head are done, and the journal is over.
func TestCommitAtTheLastSeq(t *testing.T) {
	l := []journal.Change{{At: 0, Page: full(1)}, {At: 15, Page: full(2)}}
	for _, k := range []struct {
		first int // the Seq that Open leaves
		want  api.Errno
		head  api.Page
		made  bool
	}{
		{top - 2, api.OK, quiet(top), true},
		{top - 1, api.EIO, livePage(top, l), true},
		{top, api.EIO, quiet(top), false},
	} {
		p := filled(t, 20)
		p.set(4, quiet(k.first-1))
		s := p.opened(t, "the last Seq", 4, 9)
		if e := s.commit(t, "the last Seq", l...); e != k.want || s.j.Over() != (e != api.OK) || p.d.Down() || p.d.Cached() != 0 {
			t.Errorf("from %d on: %d, over %v", k.first, e, s.j.Over())
		}
		if p.d.Lasts(4) != k.head || (p.d.Lasts(0) == full(1)) != k.made || (p.d.Lasts(15) == full(2)) != k.made {
			t.Errorf("from %d on: the head is %v, page 0 %v", k.first, p.d.Lasts(4), p.d.Lasts(0))
		}
		if p.d.Lasts(6) != full(1) || p.d.Lasts(7) != full(2) {
			t.Errorf("from %d on: nothing is laid down", k.first)
		}
		if e := s.commit(t, "behind the last Seq", l...); e != api.EIO || !s.j.Over() {
			t.Errorf("from %d on, once more: %d", k.first, e)
		}
		wantOpen(t, "behind the last Seq", p.d, 4, 9, api.EIO)
	}
}

// P5.1: a Commit that is broken off at each step: the disk is as the steps ahead of it made it, with what isn't flushed.
func TestCommitIsBrokenOff(t *testing.T) {
	for _, k := range []struct{ n, steps int }{{1, 1 + 1 + 1 + 2 + 1 + 1 + 2}, {3, 1 + 3 + 1 + 2 + 3 + 1 + 2}, {32, 1 + 32 + 1 + 2 + 32 + 1 + 2}, {33, 2 + 33 + 1 + 2 + 33 + 1 + 2}} {
		for f := range k.steps + 3 {
			c := chance(f)
			p := filled(t, 80)
			s := p.opened(t, "broken off", 10, 40)
			p.fuse(f)
			what := fmt.Sprintf("%d changes, fuse %d", k.n, f)
			e := s.commit(t, what, c.changed(80, 10, 40, k.n)...)
			if (e == api.OK) != (f >= k.steps) || s.j.Over() != (e != api.OK) || p.d.Down() != (f < k.steps) {
				t.Errorf("%s: %d, over %v, down %v", what, e, s.j.Over(), p.d.Down())
			}
			p.crash(c.bytes(c.below(40))...)
			p.same(t, what+", and a crash")
			if e := s.commit(t, what+", once more", journal.Change{At: 0}); (e == api.OK) != (f >= k.steps) {
				t.Errorf("%s, once more: %d", what, e)
			}
			p.open(t, what+", and an Open", 10, 40)
		}
	}
}

// P5.1
func TestNilJournal(t *testing.T) {
	var j *journal.Journal
	for range 2 {
		for _, l := range [][]journal.Change{nil, {}, {{At: 0}}, {{At: -1}}, {{At: 3}, {At: 3}}, make([]journal.Change, 600)} {
			if e := j.Commit(l...); e != api.EIO {
				t.Errorf("Commit of %d changes: %d", len(l), e)
			}
		}
		if j.Room() != 0 || !j.Over() {
			t.Errorf("Room %d, Over %v", j.Room(), j.Over())
		}
	}
}

// Rule 4 of the language: no call panics, of a journal that Open didn't make neither.
func TestJournalThatOpenDidNotMake(t *testing.T) {
	var j journal.Journal
	if j.Room() != 0 || j.Commit() != api.OK || j.Commit(journal.Change{}) != api.EINVAL || j.Commit(journal.Change{At: 3}, journal.Change{At: 511}) != api.EINVAL {
		t.Error("a journal without a disk has room, or pages")
	}
}

// P5.1: the examples.
func TestExamples(t *testing.T) {
	if journal.Room(3) != 1 || journal.Room(40) != 37 {
		t.Error("Room")
	}
	d := made(t, 512)
	for _, c := range []struct{ size, room int }{{3, 1}, {34, 32}, {35, 32}, {40, 37}, {512, 495}} {
		j, _, e := journal.Open(d, 0, c.size)
		if e != api.OK || j.Room() != c.room {
			t.Errorf("the room of %d pages: %d, %d", c.size, j.Room(), e)
		}
	}
}

// Rule 2 of the document: no argument is written into, and none is kept.
func TestNothingIsShared(t *testing.T) {
	c := chance(30)
	d := made(t, 80)
	j, _, _ := journal.Open(d, 10, 40)
	l := c.changed(80, 10, 40, 33)
	was := slices.Clone(l)
	for _, f := range []int{-1, 40} {
		d.Fuse(f)
		j.Commit(l...)
		if !slices.Equal(l, was) {
			t.Fatal("the changes were written into")
		}
	}
	for i := range l {
		l[i].Page = full(9)
		l[i].At = 0
	}
	d.Crash()
	if _, n, e := journal.Open(d, 10, 40); n != 33 || e != api.OK {
		t.Errorf("%d, %d", n, e)
	}
	for _, c := range was {
		if d.Lasts(c.At) != c.Page {
			t.Errorf("page %d is another one", c.At)
		}
	}
}

// some is changes of chance, at times wrong ones.
func (c *chance) some(pages, at, size int) (l []journal.Change) {
	n := c.below(roomOf(size) + 3)
	for i := range pages {
		l = append(l, journal.Change{At: i, Page: c.page()})
	}
	for i := range l { // a change is as good at any place
		k := c.below(pages)
		l[i], l[k] = l[k], l[i]
	}
	if c.below(6) > 0 {
		l = slices.DeleteFunc(l, func(k journal.Change) bool { return at <= k.At && k.At < at+size })
	}
	l = l[:min(n, len(l))]
	if c.below(8) == 0 && len(l) > 0 {
		l[c.below(len(l))].At = c.below(pages+2) - 1
	}
	return l
}

// P5.1: long orders of all calls, of several journals on a disk, with pages, heads and changes that others write: the disk is held against the model's behind each.
func TestLongOrders(t *testing.T) {
	regions := [][2]int{{1, 4}, {1, 5}, {6, 3}, {7, 9}, {0, 17}, {14, 3}, {15, 3}, {2, 2}, {-1, 4}}
	for seed := range 400 {
		c := chance(seed + 7)
		p := filled(t, 17)
		if seed%2 == 0 {
			p.set(1, quiet(c.below(3)*0xFFFF))
			p.set(6, quiet(top-c.below(9)))
		}
		all := []sides{{pair: p}}
		for k := range 120 {
			what := fmt.Sprintf("seed %d, call %d", seed, k)
			r := regions[c.below(len(regions))]
			switch n := c.below(30); {
			case n < 8:
				s, _, _ := p.open(t, what, r[0], r[1])
				all = append(all, s)
			case n < 20:
				s := all[max(0, len(all)-1-c.below(3))]
				if s.m != nil {
					r = [2]int{s.m.at, s.m.size}
				}
				s.commit(t, what, c.some(17, r[0], r[1])...)
			case n < 22:
				l := c.some(17, r[0], r[1])
				if len(l) > 0 && r[1] >= 3 {
					p.lay(r[0], l[:min(len(l), roomOf(r[1]))])
					p.both(func(d *disk.Disk) { d.Write(r[0], livePage(k, l)) })
				}
			case n < 24:
				i, q := c.below(17), c.page()
				p.both(func(d *disk.Disk) { d.Write(i, q) })
			case n < 25:
				p.both(func(d *disk.Disk) { d.Flush() })
			case n < 27:
				p.fuse(c.below(30) - 1)
			default:
				p.crash(c.bytes(c.below(9))...)
			}
			p.same(t, what)
			for _, s := range all {
				s.told(t, what)
			}
		}
	}
}
