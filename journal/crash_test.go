package journal_test

import (
	"fmt"
	"slices"
	"testing"

	"narthex/api"
	"narthex/disk"
	"narthex/journal"
)

// The small disk that is crashed in every way: pages, and a region with room for three.
const (
	smallPages = 9
	smallAt    = 2
	smallSize  = 5
)

// state is what lasts of a small disk.
type state [smallPages]api.Page

// disk is a disk on which that lasts.
func (s state) disk(t *testing.T) *disk.Disk {
	t.Helper()
	d := made(t, smallPages)
	for i, p := range s {
		d.Write(i, p)
	}
	d.Flush()
	return d
}

func lasting(d *disk.Disk) (s state) {
	for i := range s {
		s[i] = d.Lasts(i)
	}
	return s
}

// others is the pages that aren't the region's.
func (s state) others() state {
	for i := range smallSize {
		s[smallAt+i] = api.Page{}
	}
	return s
}

// verdict tells which pages there must be behind an Open.
type verdict int

const (
	either verdict = iota
	before
	after
)

// smallCase is a Commit, and the state ahead of it.
type smallCase struct {
	t            *testing.T
	start        state
	l            []journal.Change
	was, shallBe state
	mayBeLast    bool // Opens may be refused, as there are no Seqs left
	seen         map[verdict]int
}

// newCase opens a journal that begins with that Seq, and commits something ahead, so that there are stale numbers and pages in the region.
func newCase(t *testing.T, seq, n int) *smallCase {
	t.Helper()
	c := chance(seq + n)
	var s state
	for i := range s {
		s[i] = c.page()
	}
	s[smallAt] = quiet(seq)
	k := &smallCase{t: t, seen: map[verdict]int{}}
	d := s.disk(t)
	if seq < top-8 {
		j, _, e := journal.Open(d, smallAt, smallSize)
		if e != api.OK || j.Commit(c.changed(smallPages, smallAt, smallSize, 3)...) != api.OK {
			t.Fatalf("Seq %d: %d", seq, e)
		}
	}
	k.start = lasting(d)
	k.l = c.changed(smallPages, smallAt, smallSize, n)
	k.was = k.start.others()
	k.shallBe = k.was
	for _, x := range k.l {
		k.shallBe[x.At] = x.Page
	}
	return k
}

// judge opens a disk, without a fuse, and tells which pages there are.
func (k *smallCase) judge(s state) verdict {
	k.t.Helper()
	d := s.disk(k.t)
	j, n, e := journal.Open(d, smallAt, smallSize)
	if e != api.OK && !(k.mayBeLast && e == api.EIO) {
		k.t.Fatalf("Open: %d, of the head %v", e, s[smallAt])
	}
	if e == api.OK && n != 0 && n != len(k.l) {
		k.t.Fatalf("Open made %d changes, not %d or none", n, len(k.l))
	}
	v := either
	switch lasting(d).others() {
	case k.was:
		v = before
	case k.shallBe:
		v = after
	default:
		k.t.Fatalf("some changes are made, others aren't: %v", lasting(d).others())
	}
	k.seen[v]++
	if n != 0 && v != after {
		k.t.Fatal("Open told of changes that aren't there")
	}
	if e == api.OK && !k.mayBeLast && (j.Over() || j.Commit(journal.Change{At: 0, Page: full(7)}) != api.OK || d.Lasts(0) != full(7)) {
		k.t.Fatal("the journal that was opened takes no Commit")
	}
	return v
}

// broken does something on a disk in that state, broken off at each step, and crashed in each way: every state that comes of it, and whether it was answered OK. What is handed in begins without a fuse, and tells what is broken off.
func (k *smallCase) broken(s state, begin func(*disk.Disk) func() bool, ways func(cached int) [][]byte, each func(s state, ok bool)) {
	for f := 0; ; f++ {
		run := func(choices []byte) (int, bool) {
			d := s.disk(k.t)
			act := begin(d)
			d.Fuse(f)
			ok := act()
			cached, blown := d.Cached(), d.Down()
			d.Crash(choices...)
			each(lasting(d), ok)
			return cached, blown
		}
		cached, blown := run(nil)
		for _, choices := range ways(cached) {
			run(choices)
		}
		if !blown {
			return
		}
	}
}

// manyWays to crash: of one page each beginning, of more all mixtures of a few.
func manyWays(cached int) [][]byte {
	if cached == 1 {
		var l [][]byte
		for c := range 65 {
			l = append(l, []byte{byte(c)})
		}
		return l
	}
	return mixtures(cached, []byte{0, 1, 33, 64})
}

// fewWays are those in which heads differ, and less of the others.
func fewWays(cached int) [][]byte {
	if cached == 1 {
		var l [][]byte
		for _, c := range []byte{1, 2, 3, 4, 5, 6, 7, 8, 9, 10, 11, 30, 60, 61, 62, 63, 64} {
			l = append(l, []byte{c})
		}
		return l
	}
	return mixtures(cached, []byte{0, 40, 64})
}

// mixtures are all lists of that length.
func mixtures(length int, of []byte) [][]byte {
	l := [][]byte{nil}
	for range length {
		var longer [][]byte
		for _, x := range l {
			for _, c := range of {
				longer = append(longer, append(slices.Clone(x), c))
			}
		}
		l = longer
	}
	return l
}

// commits is the states behind a Commit, broken off or not, and what each leads to.
func (k *smallCase) commits() map[state]verdict {
	k.t.Helper()
	out := map[state]verdict{}
	begin := func(d *disk.Disk) func() bool {
		j, n, e := journal.Open(d, smallAt, smallSize)
		if n != 0 || e != api.OK {
			k.t.Fatalf("ahead of the Commit: %d, %d", n, e)
		}
		return func() bool { return j.Commit(k.l...) == api.OK }
	}
	k.broken(k.start, begin, manyWays, func(s state, ok bool) {
		if _, there := out[s]; !there {
			out[s] = k.judge(s)
		}
		if ok && out[s] != after {
			k.t.Fatal("a Commit that was answered OK isn't there")
		}
	})
	return out
}

// opens is the states behind an Open of each of these, broken off or not; none may lead elsewhere.
func (k *smallCase) opens(from map[state]verdict) map[state]verdict {
	k.t.Helper()
	out := map[state]verdict{}
	begin := func(d *disk.Disk) func() bool {
		return func() bool {
			_, _, e := journal.Open(d, smallAt, smallSize)
			return e == api.OK
		}
	}
	for s, v := range from {
		k.broken(s, begin, fewWays, func(next state, ok bool) {
			if _, there := out[next]; !there {
				out[next] = k.judge(next)
			}
			if out[next] != v {
				k.t.Fatalf("an Open that was broken off leads elsewhere: %d, not %d", out[next], v)
			}
			if o := next.others(); ok && o != k.was && o != k.shallBe {
				k.t.Fatal("an Open that was answered OK doesn't last")
			}
		})
	}
	return out
}

// P5.2: a Commit of one to three changes, broken off at each step, with crashes of all kinds, then Opens that are broken off at each step, with crashes of all kinds, three deep. The Seqs are those at which bytes carry, from the head ahead of the Commit (4 more) to the Live one, or from that to the next: of such a head a part has a number of neither.
func TestCrashesOfCommitAndOpens(t *testing.T) {
	for _, seq := range []int{0, 0xFA, 0xFB, 0xFFFA, 0xFFFB, 0xFFFFFA, 0xFFFFFB, 0x01FEFFFB} {
		for n := 1; n <= 3; n++ {
			k := newCase(t, seq, n)
			reached := k.commits()
			if k.seen[before] == 0 || k.seen[after] == 0 {
				t.Fatalf("no crash led back, or none led on: %v", k.seen)
			}
			depth := 2
			if n == 1 {
				depth = 3
			}
			for range depth {
				reached = k.opens(reached)
			}
		}
	}
}

// P5.2: where the last Seqs are the Opens may be refused, but the pages are those ahead of the Commit, or behind it, all the same.
func TestCrashesAtTheLastSeqs(t *testing.T) {
	for _, seq := range []int{0xFEFFFFFA, 0xFEFFFFFB, 0xFFFEFFFB, top - 6, top - 5, top - 4, top - 3, top - 2, top - 1} {
		k := newCase(t, seq, 2)
		k.mayBeLast = true
		reached := k.commits()
		for range 2 {
			reached = k.opens(reached)
		}
	}
}

// P5.2: which step it is that makes a Commit count: the Flush of the Live head, or a crash that keeps all of that head.
func TestWhenCommitCounts(t *testing.T) {
	for n := 1; n <= 3; n++ {
		k := newCase(t, 40, n)
		laid := 1 + n + 1 // a page of numbers, the pages, a flush
		for f := range laid + 2 + n + 1 + 2 {
			for _, all := range []bool{false, true} {
				d := k.start.disk(t)
				j, _, _ := journal.Open(d, smallAt, smallSize)
				d.Fuse(f)
				if j.Commit(k.l...) != api.EIO || !j.Over() {
					t.Fatalf("fuse %d: not broken off", f)
				}
				want := before
				if f > laid+1 || f == laid+1 && all {
					want = after
				}
				if all {
					d.Crash(64, 64, 64, 64, 64)
				} else {
					d.Crash()
				}
				if v := k.judge(lasting(d)); v != want {
					t.Errorf("%d changes, fuse %d, all kept %v: %d, not %d", n, f, all, v, want)
				}
			}
		}
	}
}

// allPages is what lasts of a disk's pages that aren't a region's.
func allPages(d *disk.Disk, at, size int) (l []api.Page) {
	for i := range d.Pages() {
		if i < at || i >= at+size {
			l = append(l, d.Lasts(i))
		}
	}
	return l
}

// crashed is some ways to crash with many pages in the cache: nothing, all, one beginning of each, others of chance.
func (c *chance) crashed() [][]byte {
	same := func(b byte) []byte { return slices.Repeat([]byte{b}, 80) }
	return [][]byte{nil, same(64), same(byte(1 + c.below(63))), c.bytes(80), slices.Concat(same(64)[:c.below(40)], same(0))}
}

// P5.2: Commits of 32 and 33 changes, and of as many as the room, broken off at each step, followed by an Open that is broken off at each step.
func TestCrashesOfGreatCommits(t *testing.T) {
	const pages, at, size = 78, 20, 40
	for _, n := range []int{32, 33, 37} {
		c := chance(n)
		start, l := filled(t, pages), c.changed(pages, at, size, n)
		start.set(at, quiet(250+n))
		begun := func() *disk.Disk { return start.clone(t).d }
		was := allPages(start.d, at, size)
		d := begun()
		if j, _, _ := journal.Open(d, at, size); j.Commit(l...) != api.OK {
			t.Fatal("Commit")
		}
		shallBe := allPages(d, at, size)
		for f := 0; f <= 2+n+1+2+n+1+2; f++ {
			for g := 0; g <= n+1+2; g++ {
				way := c.below(5)
				d := begun()
				j, _, _ := journal.Open(d, at, size)
				d.Fuse(f)
				ok := j.Commit(l...) == api.OK
				d.Crash(c.crashed()[way]...)
				d.Fuse(g)
				journal.Open(d, at, size)
				d.Crash(c.crashed()[c.below(5)]...)
				_, done, e := journal.Open(d, at, size)
				now := allPages(d, at, size)
				back, on := slices.Equal(now, was), slices.Equal(now, shallBe)
				if e != api.OK || done != 0 && done != n || !back && !on || ok && !on {
					t.Fatalf("%d changes, fuses %d and %d, way %d: Open %d and %d, as ahead %v, as behind %v, answered OK %v", n, f, g, way, done, e, back, on, ok)
				}
			}
		}
	}
}

// P5.2: long lives of a disk: Commits, fuses, crashes, Opens that are broken off or not; told by the answers alone.
func TestLongLives(t *testing.T) {
	for seed := range 200 {
		c := chance(seed + 99)
		pages := 8 + c.below(40)
		size := 3 + c.below(pages-4)
		at := c.below(pages - size + 1)
		d := made(t, pages)
		possible := [][]api.Page{allPages(d, at, size)} // what may be there: the last is as the Commits made it
		var j *journal.Journal
		for k := range 150 {
			what := fmt.Sprintf("seed %d, call %d, %d pages from %d on", seed, k, size, at)
			if c.below(4) == 0 {
				d.Fuse(c.below(2*size + 8))
			}
			if j == nil || j.Over() {
				if d.Down() {
					d.Crash(c.bytes(c.below(pages))...)
					d.Fuse(c.below(60) - 20)
				}
				next, _, e := journal.Open(d, at, size)
				if e != api.OK {
					if !d.Down() {
						t.Fatalf("%s: Open: %d", what, e)
					}
					continue
				}
				j = next
				now := allPages(d, at, size)
				if !slices.ContainsFunc(possible, func(l []api.Page) bool { return slices.Equal(l, now) }) {
					t.Fatalf("%s: neither all nor none", what)
				}
				possible = [][]api.Page{now}
				continue
			}
			l := c.changed(pages, at, size, 1+c.below(journal.Room(size)))
			if len(l) == 0 {
				break
			}
			made := slices.Clone(possible[0])
			for _, x := range l {
				i := x.At
				if i >= at {
					i -= size
				}
				made[i] = x.Page
			}
			switch e := j.Commit(l...); e {
			case api.OK:
				possible = [][]api.Page{made}
				if !slices.Equal(allPages(d, at, size), made) {
					t.Fatalf("%s: Commit was answered OK, and isn't there", what)
				}
			case api.EIO:
				possible = append(possible, made)
			default:
				t.Fatalf("%s: Commit: %d", what, e)
			}
		}
	}
}
