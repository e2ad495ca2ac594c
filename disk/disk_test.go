package disk_test

import (
	"fmt"
	"math"
	"slices"
	"testing"

	"narthex/api"
	"narthex/disk"
)

// chance is numbers that look like chance, the same in each run.
type chance uint32

func (c *chance) below(n int) int {
	*c = *c*1664525 + 1013904223
	return int(*c>>8) % n
}

func (c *chance) bytes(n int) []byte {
	l := make([]byte, n)
	for i := range l {
		l[i] = byte(c.below(256))
	}
	return l
}

func (c *chance) page() (p api.Page) {
	copy(p[:], c.bytes(api.PageSize))
	return p
}

func full(b byte) (p api.Page) {
	for i := range p {
		p[i] = b
	}
	return p
}

// mixed is a page whose first n bytes are a, the others b.
func mixed(n int, a, b byte) api.Page {
	p := full(b)
	for i := range n {
		p[i] = a
	}
	return p
}

func made(t *testing.T, pages int) *disk.Disk {
	t.Helper()
	d, e := disk.New(pages)
	if e != api.OK || d == nil {
		t.Fatalf("New(%d): %v, %d", pages, d, e)
	}
	return d
}

func mustWrite(t *testing.T, d *disk.Disk, i int, p api.Page) {
	t.Helper()
	if e := d.Write(i, p); e != api.OK {
		t.Fatalf("Write(%d): %d", i, e)
	}
}

func mustFlush(t *testing.T, d *disk.Disk) {
	t.Helper()
	if e := d.Flush(); e != api.OK {
		t.Fatalf("Flush: %d", e)
	}
}

func wantRead(t *testing.T, d *disk.Disk, i int, p api.Page, e api.Errno) {
	t.Helper()
	if gotP, gotE := d.Read(i); gotP != p || gotE != e {
		t.Errorf("Read(%d): %v and %d, not %v and %d", i, gotP, gotE, p, e)
	}
}

// wantAll asks what is told without an error.
func wantAll(t *testing.T, d *disk.Disk, pages, cached int, down bool) {
	t.Helper()
	if d.Pages() != pages || d.Cached() != cached || d.Down() != down {
		t.Errorf("Pages %d, Cached %d, Down %v, not %d, %d, %v", d.Pages(), d.Cached(), d.Down(), pages, cached, down)
	}
}

// noPage are numbers that no page of a disk of n pages has.
func noPage(n int) []int {
	return []int{-1, -2, -n, -n - 1, n, n + 1, 2 * n, api.MaxPages, api.MaxPages + 1, math.MinInt, math.MinInt + 1, math.MinInt32, math.MaxInt32, math.MaxUint32 + 1, math.MaxInt}
}

// P3.1
func TestNew(t *testing.T) {
	for n := -600; n <= 1200; n++ {
		d, e := disk.New(n)
		if n < 1 || n > 512 {
			if d != nil || e != api.EINVAL {
				t.Errorf("New(%d): %v, %d", n, d, e)
			}
			continue
		}
		if d == nil || e != api.OK {
			t.Fatalf("New(%d): %v, %d", n, d, e)
		}
		wantAll(t, d, n, 0, false)
		for i := range n {
			wantRead(t, d, i, api.Page{}, api.OK)
			if d.Lasts(i) != (api.Page{}) {
				t.Errorf("a new disk's page %d isn't zero", i)
			}
		}
	}
	for _, n := range []int{math.MinInt, math.MinInt + 1, math.MinInt + 513, math.MinInt32, math.MaxInt32, math.MaxUint32 + 2, math.MaxInt} {
		if d, e := disk.New(n); d != nil || e != api.EINVAL {
			t.Errorf("New(%d): %v, %d", n, d, e)
		}
	}
}

// P3.1
func TestWriteIsReadBeforeItLasts(t *testing.T) {
	d := made(t, 3)
	mustWrite(t, d, 1, full(1))
	wantAll(t, d, 3, 1, false)
	wantRead(t, d, 0, api.Page{}, api.OK)
	wantRead(t, d, 1, full(1), api.OK)
	wantRead(t, d, 2, api.Page{}, api.OK)
	if d.Lasts(1) != (api.Page{}) {
		t.Error("a page that isn't flushed lasts")
	}
	mustFlush(t, d)
	wantAll(t, d, 3, 0, false)
	wantRead(t, d, 1, full(1), api.OK)
	if d.Lasts(0) != (api.Page{}) || d.Lasts(1) != full(1) || d.Lasts(2) != (api.Page{}) {
		t.Error("behind a Flush other pages last")
	}
}

// P3.1: a page counts once in the cache, however often it is written, and though nothing of it changes.
func TestWriteTwice(t *testing.T) {
	d := made(t, 2)
	mustWrite(t, d, 0, full(1))
	mustWrite(t, d, 0, full(2))
	wantAll(t, d, 2, 1, false)
	wantRead(t, d, 0, full(2), api.OK)
	mustFlush(t, d)
	if d.Lasts(0) != full(2) {
		t.Errorf("the page that lasts: %v", d.Lasts(0))
	}
	mustWrite(t, d, 0, full(2))
	mustWrite(t, d, 1, api.Page{})
	wantAll(t, d, 2, 2, false)
	mustWrite(t, d, 0, full(3))
	mustWrite(t, d, 0, api.Page{})
	wantRead(t, d, 0, api.Page{}, api.OK)
	wantAll(t, d, 2, 2, false)
	mustFlush(t, d)
	wantAll(t, d, 2, 0, false)
	if d.Lasts(0) != (api.Page{}) || d.Lasts(1) != (api.Page{}) {
		t.Error("zero pages that were written don't last")
	}
}

// P3.1: each page of the greatest disk is one of its own.
func TestAllPages(t *testing.T) {
	d := made(t, api.MaxPages)
	c := chance(1)
	var l []api.Page
	for i := range api.MaxPages {
		l = append(l, c.page())
		mustWrite(t, d, i, l[i])
		wantAll(t, d, api.MaxPages, i+1, false)
	}
	mustFlush(t, d)
	wantAll(t, d, api.MaxPages, 0, false)
	for i, p := range l {
		wantRead(t, d, i, p, api.OK)
		if d.Lasts(i) != p {
			t.Errorf("page %d lasts as another", i)
		}
	}
}

// P3.1
func TestPagesThatAreNotThere(t *testing.T) {
	for _, n := range []int{1, 2, 3, 511} {
		d := made(t, n)
		mustWrite(t, d, 0, full(7))
		mustWrite(t, d, n-1, full(7))
		cached := d.Cached()
		for _, i := range noPage(n) {
			if e := d.Write(i, full(1)); e != api.EINVAL {
				t.Errorf("of %d pages: Write(%d): %d", n, i, e)
			}
			wantRead(t, d, i, api.Page{}, api.EINVAL)
			if p := d.Lasts(i); p != (api.Page{}) {
				t.Errorf("of %d pages: Lasts(%d): %v", n, i, p)
			}
		}
		wantAll(t, d, n, cached, false)
		wantRead(t, d, 0, full(7), api.OK)
		wantRead(t, d, n-1, full(7), api.OK)
		mustFlush(t, d)
		for _, i := range noPage(n) {
			if p := d.Lasts(i); p != (api.Page{}) {
				t.Errorf("of %d pages, flushed: Lasts(%d): %v", n, i, p)
			}
		}
	}
}

// P3.1: down is asked first, then the page, then the fuse: a page that isn't there spends nothing of it, and doesn't blow it.
func TestOrderOfErrors(t *testing.T) {
	d := made(t, 2)
	d.Fuse(1)
	for _, i := range noPage(2) {
		if e := d.Write(i, full(1)); e != api.EINVAL {
			t.Errorf("Write(%d) with a fuse of 1: %d", i, e)
		}
	}
	mustWrite(t, d, 0, full(1))
	for _, i := range noPage(2) {
		if e := d.Write(i, full(1)); e != api.EINVAL {
			t.Errorf("Write(%d) with a spent fuse: %d", i, e)
		}
	}
	wantAll(t, d, 2, 1, false)
	if e := d.Write(0, full(2)); e != api.EIO {
		t.Errorf("Write with a spent fuse: %d", e)
	}
	wantAll(t, d, 2, 1, true)
	for _, i := range append(noPage(2), 0, 1) {
		if e := d.Write(i, full(1)); e != api.EIO {
			t.Errorf("Write(%d), down: %d", i, e)
		}
		wantRead(t, d, i, api.Page{}, api.EIO)
	}
}

// P3.1: of each fuse, spent by Writes alone or by Flushes alone or by both, and blown by either.
func TestFuseOfEachLength(t *testing.T) {
	for n := range 12 {
		for kind := range 8 {
			d := made(t, 3)
			mustWrite(t, d, 2, full(9))
			d.Fuse(n)
			for k := range n {
				if kind&1 == 0 || kind&2 == 0 && k%2 == 0 {
					mustWrite(t, d, k%2, full(byte(k+1)))
				} else {
					mustFlush(t, d)
				}
				wantAll(t, d, 3, d.Cached(), false)
			}
			cached, first, lasts := d.Cached(), d.Lasts(0), d.Lasts(2)
			wantRead(t, d, 2, full(9), api.OK)
			var e api.Errno
			if kind&4 == 0 {
				e = d.Write(0, full(99))
			} else {
				e = d.Flush()
			}
			if e != api.EIO {
				t.Errorf("the step behind a fuse of %d: %d", n, e)
			}
			wantAll(t, d, 3, cached, true)
			if d.Lasts(0) != first || d.Lasts(2) != lasts {
				t.Errorf("a step that the fuse of %d refused was done", n)
			}
		}
	}
}

// P3.1: a fuse of 0 is spent at once, but the disk is down only behind the next step.
func TestFuseOfNothing(t *testing.T) {
	for _, flush := range []bool{false, true} {
		d := made(t, 1)
		mustWrite(t, d, 0, full(1))
		d.Fuse(0)
		wantAll(t, d, 1, 1, false)
		wantRead(t, d, 0, full(1), api.OK)
		e := api.OK
		if flush {
			e = d.Flush()
		} else {
			e = d.Write(0, full(2))
		}
		if e != api.EIO {
			t.Errorf("a step with a fuse of 0: %d", e)
		}
		wantAll(t, d, 1, 1, true)
		wantRead(t, d, 0, api.Page{}, api.EIO)
		if d.Lasts(0) != (api.Page{}) {
			t.Error("what the fuse refused lasts")
		}
		d.Crash(64)
		wantRead(t, d, 0, full(1), api.OK)
	}
}

// P3.1: what is asked, and a crash, is no step.
func TestOnlyStepsSpendTheFuse(t *testing.T) {
	d := made(t, 2)
	d.Fuse(2)
	for range 10 {
		wantRead(t, d, 0, api.Page{}, api.OK)
		wantRead(t, d, 5, api.Page{}, api.EINVAL)
		wantAll(t, d, 2, 0, false)
		d.Lasts(0)
		d.Lasts(5)
		d.Write(5, full(1))
	}
	mustFlush(t, d)
	mustFlush(t, d)
	if e := d.Flush(); e != api.EIO {
		t.Errorf("a Flush of nothing spends none: %d", e)
	}
}

// P3.1
func TestFuseBelowZero(t *testing.T) {
	for _, n := range []int{-1, -2, -64, math.MinInt32, math.MinInt + 1, math.MinInt} {
		for _, first := range []int{-1, 0, 1, math.MaxInt} {
			d := made(t, 2)
			d.Fuse(first)
			d.Fuse(n)
			for k := range 200 {
				mustWrite(t, d, k%2, full(byte(k)))
				mustFlush(t, d)
			}
			wantAll(t, d, 2, 0, false)
		}
	}
	d := made(t, 2)
	d.Fuse(math.MaxInt)
	for range 200 {
		mustFlush(t, d)
	}
}

// P3.1: the last fuse is the one that holds.
func TestFuseAnew(t *testing.T) {
	d := made(t, 1)
	d.Fuse(5)
	mustFlush(t, d)
	d.Fuse(1)
	mustFlush(t, d)
	d.Fuse(2)
	mustFlush(t, d)
	mustFlush(t, d)
	if e := d.Flush(); e != api.EIO || !d.Down() {
		t.Errorf("behind the last fuse: %d, %v", e, d.Down())
	}
}

// P3.1: a disk that is down stays so, whatever fuse it gets, till a crash, which takes that fuse away.
func TestDown(t *testing.T) {
	for _, n := range []int{math.MinInt, -1, 0, 1, 5, math.MaxInt} {
		d := made(t, 2)
		mustWrite(t, d, 0, full(1))
		mustFlush(t, d)
		mustWrite(t, d, 0, full(2))
		d.Fuse(0)
		d.Flush()
		for range 3 {
			d.Fuse(n)
			wantAll(t, d, 2, 1, true)
			wantRead(t, d, 0, api.Page{}, api.EIO)
			if d.Write(0, full(3)) != api.EIO || d.Write(9, full(3)) != api.EIO || d.Flush() != api.EIO {
				t.Errorf("a disk that is down does a step behind Fuse(%d)", n)
			}
			if d.Lasts(0) != full(1) || d.Lasts(1) != (api.Page{}) || d.Lasts(2) != (api.Page{}) {
				t.Error("what lasts isn't told, while it is down")
			}
		}
		d.Crash(3)
		wantAll(t, d, 2, 0, false)
		wantRead(t, d, 0, mixed(3, 2, 1), api.OK)
		for range 10 {
			mustWrite(t, d, 1, full(4))
			mustFlush(t, d)
		}
	}
}

// P3.1: a crash takes a fuse away that isn't spent, and one that is, while the disk isn't down.
func TestCrashTakesTheFuse(t *testing.T) {
	for _, n := range []int{0, 1, 2, 5} {
		d := made(t, 1)
		d.Fuse(n)
		d.Crash()
		for range 10 {
			mustFlush(t, d)
		}
	}
}

// P3.1 and P3.2: each choice, of which those above 64 are taken modulo 65.
func TestCrashWithEachChoice(t *testing.T) {
	for c := range 256 {
		d := made(t, 1)
		mustWrite(t, d, 0, full(1))
		mustFlush(t, d)
		mustWrite(t, d, 0, full(2))
		d.Crash(byte(c))
		want := mixed(c%65, 2, 1)
		wantRead(t, d, 0, want, api.OK)
		wantAll(t, d, 1, 0, false)
		if d.Lasts(0) != want {
			t.Errorf("Crash(%d): %v lasts", c, d.Lasts(0))
		}
	}
	for _, c := range []struct{ choice, kept int }{{0, 0}, {1, 1}, {63, 63}, {64, 64}, {65, 0}, {66, 1}, {129, 64}, {130, 0}, {194, 64}, {195, 0}, {255, 60}} {
		d := made(t, 1)
		mustWrite(t, d, 0, full(2))
		d.Crash(byte(c.choice))
		wantRead(t, d, 0, mixed(c.kept, 2, 0), api.OK)
	}
}

// P3.1: pages take choices by their numbers, not by when they were written; pages that aren't in the cache take none.
func TestCrashTakesPagesRising(t *testing.T) {
	d := made(t, 40)
	for i := range 40 {
		mustWrite(t, d, i, full(1))
	}
	mustFlush(t, d)
	for _, i := range []int{30, 3, 39, 0, 17, 3, 8} {
		mustWrite(t, d, i, full(byte(100+i)))
	}
	wantAll(t, d, 40, 6, false)
	d.Crash(1, 2, 3, 4, 5, 6)
	kept := map[int]int{0: 1, 3: 2, 8: 3, 17: 4, 30: 5, 39: 6}
	for i := range 40 {
		wantRead(t, d, i, mixed(kept[i], byte(100+i), 1), api.OK)
	}
}

// P3.1: where there are no more choices nothing is kept; choices that are left over are none for a later crash.
func TestCrashWithFewAndManyChoices(t *testing.T) {
	for n := range 12 {
		d := made(t, 8)
		for i := 7; i >= 2; i-- {
			mustWrite(t, d, i, full(byte(i)))
		}
		choices := []byte{64, 10, 0, 64, 129, 33, 64, 64, 64, 64, 64, 64}[:n]
		d.Crash(choices...)
		wantAll(t, d, 8, 0, false)
		for i := range 8 {
			want := api.Page{}
			if i >= 2 && i-2 < n {
				want = mixed(int(choices[i-2])%65, byte(i), 0)
			}
			wantRead(t, d, i, want, api.OK)
		}
		mustWrite(t, d, 0, full(50))
		d.Crash()
		wantRead(t, d, 0, api.Page{}, api.OK)
	}
}

// P3.1: of a page that was written twice the last content is kept, over what lasted, not over the first.
func TestCrashOfPageWrittenTwice(t *testing.T) {
	d := made(t, 2)
	mustWrite(t, d, 0, full(1))
	mustFlush(t, d)
	mustWrite(t, d, 0, full(2))
	mustWrite(t, d, 1, full(5))
	mustWrite(t, d, 0, full(3))
	d.Crash(10, 20)
	wantRead(t, d, 0, mixed(10, 3, 1), api.OK)
	wantRead(t, d, 1, mixed(20, 5, 0), api.OK)
}

// P3.2: crash behind crash: each tears over what the one ahead left; a crash with nothing in the cache changes nothing.
func TestCrashBehindCrash(t *testing.T) {
	d := made(t, 1)
	mustWrite(t, d, 0, full(1))
	d.Crash(40)
	d.Crash(64, 64)
	mustWrite(t, d, 0, full(2))
	d.Crash(20)
	mustWrite(t, d, 0, full(3))
	d.Crash(10)
	d.Crash(64)
	want := mixed(40, 1, 0)
	for i := range 20 {
		want[i] = 2
	}
	for i := range 10 {
		want[i] = 3
	}
	wantRead(t, d, 0, want, api.OK)
	if d.Lasts(0) != want {
		t.Errorf("what lasts: %v", d.Lasts(0))
	}
}

// P3.1
func TestExample(t *testing.T) {
	d := made(t, 1)
	mustWrite(t, d, 0, full(1))
	mustFlush(t, d)
	mustWrite(t, d, 0, full(2))
	d.Crash(3)
	wantRead(t, d, 0, mixed(3, 2, 1), api.OK)
}

// P3.1: in every call, also behind those that would bring another disk up.
func TestNilDisk(t *testing.T) {
	var d *disk.Disk
	for range 3 {
		for _, i := range append(noPage(1), 0) {
			if e := d.Write(i, full(1)); e != api.EIO {
				t.Errorf("Write(%d): %d", i, e)
			}
			wantRead(t, d, i, api.Page{}, api.EIO)
			if p := d.Lasts(i); p != (api.Page{}) {
				t.Errorf("Lasts(%d): %v", i, p)
			}
		}
		if e := d.Flush(); e != api.EIO {
			t.Errorf("Flush: %d", e)
		}
		wantAll(t, d, 0, 0, true)
		d.Fuse(-1)
		d.Fuse(0)
		d.Fuse(5)
		wantAll(t, d, 0, 0, true)
		d.Crash()
		d.Crash(64, 64)
		wantAll(t, d, 0, 0, true)
	}
}

// Rule 4 of the language: no call panics; a disk that New didn't make has no pages.
func TestDiskThatNewDidNotMake(t *testing.T) {
	var d disk.Disk
	for _, i := range append(noPage(1), 0) {
		if e := d.Write(i, full(1)); e != api.EINVAL {
			t.Errorf("Write(%d): %d", i, e)
		}
		wantRead(t, &d, i, api.Page{}, api.EINVAL)
		if p := d.Lasts(i); p != (api.Page{}) {
			t.Errorf("Lasts(%d): %v", i, p)
		}
	}
	mustFlush(t, &d)
	d.Fuse(0)
	d.Flush()
	wantAll(t, &d, 0, 0, true)
	d.Crash(1)
	wantAll(t, &d, 0, 0, false)
}

// Rule 2 of the document: what is kept shares no memory with an argument or an answer, and disks share none.
func TestNothingIsShared(t *testing.T) {
	d, other := made(t, 2), made(t, 2)
	p := full(1)
	mustWrite(t, d, 0, p)
	p[0] = 9
	wantRead(t, d, 0, full(1), api.OK)
	q, _ := d.Read(0)
	q[1] = 9
	wantRead(t, d, 0, full(1), api.OK)
	mustFlush(t, d)
	q = d.Lasts(0)
	q[2] = 9
	wantRead(t, d, 0, full(1), api.OK)
	wantRead(t, other, 0, api.Page{}, api.OK)
	mustWrite(t, d, 0, full(2))
	mustWrite(t, d, 1, full(2))
	choices := []byte{255, 64, 7}
	d.Crash(choices...)
	if !slices.Equal(choices, []byte{255, 64, 7}) {
		t.Errorf("the choices were written into: %v", choices)
	}
	d.Fuse(0)
	d.Flush()
	wantAll(t, other, 2, 0, false)
	mustFlush(t, other)
}

// model tells of a disk another way than the program: a list of all that was ever done; each answer is looked up in it from its end.
type model struct {
	pages int
	done  []event
}

type event struct {
	kind    string
	at, n   int
	page    api.Page
	choices []byte
}

// alive asks the fuse: how many steps there were since, if it wasn't taken away.
func (m *model) alive(steps int) bool {
	for k := len(m.done) - 1; k >= 0; k-- {
		switch e := m.done[k]; e.kind {
		case "write", "flush":
			steps++
		case "fuse":
			return e.n < 0 || steps <= e.n
		case "crash":
			return true
		}
	}
	return true
}

func (m *model) down() bool {
	for k := len(m.done) - 1; k >= 0 && m.done[k].kind != "crash"; k-- {
		if m.done[k].kind == "blown" {
			return true
		}
	}
	return false
}

// fresh is the last content of a page that was written since the last Flush or Crash ahead of the event k.
func (m *model) fresh(i, k int) (api.Page, bool) {
	for k--; k >= 0; k-- {
		switch e := m.done[k]; {
		case e.kind == "flush" || e.kind == "crash":
			return api.Page{}, false
		case e.kind == "write" && e.at == i:
			return e.page, true
		}
	}
	return api.Page{}, false
}

// lasts is what the page i has without the cache, ahead of the event k.
func (m *model) lasts(i, k int) api.Page {
	for k--; k >= 0; k-- {
		e := m.done[k]
		if e.kind != "flush" && e.kind != "crash" {
			continue
		}
		p, ok := m.fresh(i, k)
		switch {
		case ok && e.kind == "flush":
			return p
		case ok:
			return m.torn(i, k, p)
		}
	}
	return api.Page{}
}

// torn is what a crash, the event k, left of a page.
func (m *model) torn(i, k int, p api.Page) api.Page {
	place := 0
	for j := range i {
		if _, ok := m.fresh(j, k); ok {
			place++
		}
	}
	old := m.lasts(i, k)
	if place >= len(m.done[k].choices) {
		return old
	}
	for b := range p {
		if b >= int(m.done[k].choices[place])%65 {
			p[b] = old[b]
		}
	}
	return p
}

func (m *model) cached() int {
	n := 0
	for i := range m.pages {
		if _, ok := m.fresh(i, len(m.done)); ok {
			n++
		}
	}
	return n
}

func (m *model) read(i int) (api.Page, api.Errno) {
	if m.down() {
		return api.Page{}, api.EIO
	}
	if i < 0 || i >= m.pages {
		return api.Page{}, api.EINVAL
	}
	if p, ok := m.fresh(i, len(m.done)); ok {
		return p, api.OK
	}
	return m.lasts(i, len(m.done)), api.OK
}

// do answers for a Write or a Flush, and takes every event down.
func (m *model) do(e event) api.Errno {
	switch {
	case e.kind == "fuse" || e.kind == "crash":
	case m.down():
		return api.EIO
	case e.kind == "write" && (e.at < 0 || e.at >= m.pages):
		return api.EINVAL
	case !m.alive(1):
		m.done = append(m.done, event{kind: "blown"})
		return api.EIO
	}
	m.done = append(m.done, e)
	return api.OK
}

func run(d *disk.Disk, e event) api.Errno {
	switch e.kind {
	case "write":
		return d.Write(e.at, e.page)
	case "flush":
		return d.Flush()
	case "fuse":
		d.Fuse(e.n)
	case "crash":
		d.Crash(e.choices...)
	}
	return api.OK
}

// unlike tells what differs between a disk and its model; "": nothing.
func unlike(d *disk.Disk, m *model) string {
	if d.Pages() != m.pages || d.Cached() != m.cached() || d.Down() != m.down() {
		return fmt.Sprintf("Pages %d, Cached %d, Down %v, not %d, %d, %v", d.Pages(), d.Cached(), d.Down(), m.pages, m.cached(), m.down())
	}
	for i := -1; i <= m.pages; i++ {
		p, e := d.Read(i)
		if wantP, wantE := m.read(i); p != wantP || e != wantE {
			return fmt.Sprintf("Read(%d): %v and %d, not %v and %d", i, p, e, wantP, wantE)
		}
		if p, want := d.Lasts(i), m.lasts(i, len(m.done)); p != want {
			return fmt.Sprintf("Lasts(%d): %v, not %v", i, p, want)
		}
	}
	return ""
}

// P3.1: all orders of a few calls.
func TestEveryShortOrder(t *testing.T) {
	events := []event{
		{kind: "write", at: 0}, {kind: "write", at: 1}, {kind: "write", at: 2},
		{kind: "flush"},
		{kind: "fuse", n: 0}, {kind: "fuse", n: 2}, {kind: "fuse", n: -1},
		{kind: "crash"}, {kind: "crash", choices: []byte{3, 70}},
	}
	const length = 5
	orders := 1
	for range length {
		orders *= len(events)
	}
	for order := range orders {
		d, m := made(t, 2), &model{pages: 2}
		var told []event
		for k, rest := 0, order; k < length; k, rest = k+1, rest/len(events) {
			e := events[rest%len(events)]
			e.page = full(byte(k + 1))
			told = append(told, e)
			got, want := run(d, e), m.do(e)
			if got != want {
				t.Fatalf("%v: answered %d, not %d", told, got, want)
			}
		}
		if s := unlike(d, m); s != "" {
			t.Fatalf("%v: %s", told, s)
		}
	}
}

// event is any call of a disk of n pages, sometimes a wrong one.
func (c *chance) event(n int) event {
	switch k := c.below(20); {
	case k < 11:
		return event{kind: "write", at: c.below(n+2) - 1, page: c.page()}
	case k < 15:
		return event{kind: "flush"}
	case k < 17:
		return event{kind: "fuse", n: c.below(12) - 2}
	default:
		return event{kind: "crash", choices: c.bytes(c.below(n + 2))}
	}
}

// P3.1: long orders, all that can be asked behind each call.
func TestLongOrders(t *testing.T) {
	for seed := range 150 {
		c := chance(seed)
		n := 1 + c.below(6)
		d, m := made(t, n), &model{pages: n}
		for k := range 80 {
			e := c.event(n)
			got, want := run(d, e), m.do(e)
			if got != want {
				t.Fatalf("seed %d, call %d, %s: answered %d, not %d", seed, k, e.kind, got, want)
			}
			if s := unlike(d, m); s != "" {
				t.Fatalf("seed %d, call %d, %s: %s", seed, k, e.kind, s)
			}
		}
	}
}

// startsWith tells whether p is a beginning of one page, and the rest of another.
func startsWith(p, beginning, rest api.Page) bool {
	for n := range api.PageSize + 1 {
		q := rest
		copy(q[:], beginning[:n])
		if p == q {
			return true
		}
	}
	return false
}

// P3.2: told by the answers of Write and Flush alone, whatever fuse and choices there are.
func TestWhatIsFlushedOutlivesCrashes(t *testing.T) {
	for seed := range 300 {
		c := chance(seed + 1000)
		n := 1 + c.below(30)
		d := made(t, n)
		flushed, written, since := make([]api.Page, n), make([]api.Page, n), make([]bool, n)
		for range 200 {
			e := c.event(n)
			ok := run(d, e) == api.OK
			switch {
			case e.kind == "write" && ok:
				written[e.at], since[e.at] = e.page, true
			case e.kind == "flush" && ok:
				for i := range n {
					if since[i] {
						flushed[i], since[i] = written[i], false
					}
				}
			case e.kind == "crash":
				for i := range n {
					p, err := d.Read(i)
					if err != api.OK || p != d.Lasts(i) {
						t.Fatalf("seed %d: behind a crash page %d isn't what lasts: %d", seed, i, err)
					}
					if !since[i] && p != flushed[i] {
						t.Fatalf("seed %d: page %d was flushed, and is another behind a crash", seed, i)
					}
					if since[i] && !startsWith(p, written[i], flushed[i]) {
						t.Fatalf("seed %d: page %d is no beginning of what was written", seed, i)
					}
					flushed[i], since[i] = p, false
				}
			}
		}
	}
}

// P3.1: the same calls lead to the same disk.
func TestTheSameAgain(t *testing.T) {
	for seed := range 20 {
		first, second := made(t, 60), made(t, 60)
		c := chance(seed + 5)
		for k := range 400 {
			e := c.event(60)
			if run(first, e) != run(second, e) || first.Cached() != second.Cached() || first.Down() != second.Down() {
				t.Fatalf("seed %d, call %d: two answers", seed, k)
			}
			for i := range 60 {
				p, a := first.Read(i)
				q, b := second.Read(i)
				if p != q || a != b || first.Lasts(i) != second.Lasts(i) {
					t.Fatalf("seed %d, call %d: page %d is two", seed, k, i)
				}
			}
		}
	}
}
