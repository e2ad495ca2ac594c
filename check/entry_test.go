package check_test

import (
	"fmt"
	"testing"

	"narthex/api"
	"narthex/check"
	"narthex/dir"
	"narthex/disk"
	"narthex/file"
	"narthex/inode"
)

// adds lets a name of a directory lead to an inode, whatever is there.
func adds(in int, name string, ino int) func(s *file.Step) {
	return func(s *file.Step) { dir.Of(s, in).Add(name, ino) }
}

// changes changes an inode.
func changes(ino int, f func(x *inode.Inode)) func(s *file.Step) {
	return func(s *file.Step) {
		x := s.Inode(ino)
		f(&x)
		s.Change(ino, x)
	}
}

func setLinks(ino, n int) func(s *file.Step) {
	return changes(ino, func(x *inode.Inode) { x.Links = n })
}

func news(kind, links int) func(s *file.Step) {
	return func(s *file.Step) { s.New(inode.Inode{Kind: kind, Links: links}) }
}

// stepped is the sample's volume, with steps done to it that no tree does.
func stepped(t *testing.T, l ...func(s *file.Step)) *file.Volume {
	t.Helper()
	_, x := sample(t)
	v := x.Volume()
	for k, f := range l {
		if e := v.Do(f); e != api.OK {
			t.Fatalf("step %d: %d", k, e)
		}
	}
	return v
}

// P15.1: entries that lead to an inode that isn't there, or outside of the plan; of each directory, each inode once.
func TestDangling(t *testing.T) {
	for _, n := range []int{spare, inodes, inodes + 1, inodes + 2, 128, 129, 256, 512, 65535} {
		for _, in := range []int{root, aDir, sub, empty} {
			has(t, fmt.Sprint(n, " in ", in), stepped(t, adds(in, "x", n)), of(check.Dangling, in, n))
		}
		v := stepped(t, adds(root, "x", n), adds(root, "y", n), adds(sub, "x", n), adds(root, "z", spare+1))
		if n > spare {
			has(t, "more", v, of(check.Dangling, root, spare+1), of(check.Dangling, root, n), of(check.Dangling, sub, n))
		}
	}
	page := where(t, root, 0)
	has(t, "spoilt", spoilt(t, entry(page, 2, spare, "link")), of(check.Dangling, root, spare), ofInode(check.Orphan, aLink))
	has(t, "of an orphan", stepped(t, news(api.Dir, 2), adds(spare, "x", 99)), of(check.Dangling, spare, 99), ofInode(check.Orphan, spare))
	has(t, "of a Dir without Links", stepped(t, news(api.Dir, 0), adds(spare, "x", 99)), of(check.Dangling, spare, 99))
	has(t, "to one that isn't right", spoilt(t, kind(aLink, 7)), ofInode(check.Wrong, aLink), ofPage(check.Lost, where(t, aLink, 0)))
	has(t, "to one of Kind None that isn't right", spoilt(t, field(aLink, 0, 8, 0), inodeBit(aLink)), ofInode(check.Wrong, aLink), ofPage(check.Lost, where(t, aLink, 0)), of(check.Dangling, root, aLink))
}

// P15.1: Dirs that are led to more than once, and the root, if it is; what is no Dir may be.
func TestDoubled(t *testing.T) {
	has(t, "in one directory", stepped(t, adds(root, "x", empty), setLinks(root, 5)), ofInode(check.Doubled, empty))
	has(t, "in two", stepped(t, adds(sub, "x", empty), setLinks(sub, 3)), ofInode(check.Doubled, empty))
	has(t, "three times", stepped(t, adds(sub, "x", empty), adds(sub, "y", empty), setLinks(sub, 4)), ofInode(check.Doubled, empty))
	has(t, "and Links", stepped(t, adds(root, "x", empty)), ofInode(check.Doubled, empty), of(check.Links, root, 5))
	has(t, "by an orphan", stepped(t, news(api.Dir, 3), adds(spare, "x", empty)), ofInode(check.Doubled, empty), ofInode(check.Orphan, spare))
	has(t, "two", stepped(t, adds(sub, "x", empty), adds(empty, "x", sub), setLinks(sub, 3), setLinks(empty, 3)), ofInode(check.Doubled, sub), ofInode(check.Doubled, empty))
	for _, in := range []int{aDir, sub, empty} {
		v := stepped(t, adds(in, "x", root))
		x, _ := v.Inode(in)
		has(t, "the root", v, ofInode(check.Doubled, root), of(check.Links, in, x.Links+1))
		must(t, v.Do(setLinks(in, x.Links+1)))
		has(t, "the root, Links right", v, ofInode(check.Doubled, root))
	}
	has(t, "the root by itself", stepped(t, adds(root, ".x", root), setLinks(root, 5)), ofInode(check.Doubled, root))
	has(t, "the root by an orphan", stepped(t, news(api.Dir, 3), adds(spare, "x", root)), ofInode(check.Doubled, root), ofInode(check.Orphan, spare))
	has(t, "the root twice", stepped(t, adds(empty, "x", root), adds(sub, "x", root), setLinks(empty, 3), setLinks(sub, 3)), ofInode(check.Doubled, root))
	has(t, "a File", stepped(t, adds(root, "x", aFile), setLinks(aFile, 3)))
	has(t, "a Link", stepped(t, adds(root, "x", aLink), setLinks(aLink, 2)))
}

// P15.1: a Dir that lies in itself, or in one that lies in it: it is gone through, and told.
func TestRings(t *testing.T) {
	has(t, "in itself", stepped(t, adds(empty, "x", empty), setLinks(empty, 3)), ofInode(check.Doubled, empty))
	has(t, "two deep", stepped(t, adds(sub, "x", aDir), setLinks(sub, 3)), ofInode(check.Doubled, aDir))
	has(t, "alone in itself", stepped(t, news(api.Dir, 3), adds(spare, "x", spare)), ofInode(check.Orphan, spare))
	ring := stepped(t, news(api.Dir, 3), news(api.Dir, 3), adds(spare, "x", spare+1), adds(spare+1, "y", spare), news(api.File, 1), adds(spare+1, "z", spare+2))
	has(t, "a ring apart", ring, ofInode(check.Orphan, spare), ofInode(check.Orphan, spare+1), ofInode(check.Orphan, spare+2))
}

// P15.1: two entries with one name are two.
func TestOneNameTwice(t *testing.T) {
	page := where(t, root, 1)
	has(t, "one inode's", spoilt(t, entry(page, 2, aLink, "link")), of(check.Links, aLink, 2))
	has(t, "two inodes'", spoilt(t, entry(page, 2, aLink, "one"), links(aLink, 2)))
}

// P15.1: Links too many and too few, of each Kind.
func TestLinks(t *testing.T) {
	for ino, ought := range map[int]int{root: 4, aDir: 3, sub: 2, aFile: 2, aLink: 1, big: 1, empty: 2, one: 19} {
		for n := range api.MaxLinks + 1 {
			want := []check.Problem{of(check.Links, ino, ought)}
			if n == ought {
				want = nil
			}
			has(t, fmt.Sprint(n, " Links of ", ino), stepped(t, setLinks(ino, n)), want...)
			if n > 0 {
				has(t, fmt.Sprint(n, " Links of ", ino, ", spoilt"), spoilt(t, links(ino, n)), want...)
			}
		}
	}
	has(t, "three", stepped(t, setLinks(root, 5), setLinks(aFile, 1), setLinks(one, 1)), of(check.Links, root, 4), of(check.Links, aFile, 2), of(check.Links, one, 19))
	has(t, "of more than may be", spoilt(t, links(aLink, 41)), ofInode(check.Wrong, aLink), ofPage(check.Lost, where(t, aLink, 0)), of(check.Links, aLink, 1))
}

// P15.1: a name that came or went without its inode's Links.
func TestLinksByEntries(t *testing.T) {
	has(t, "a File's came", stepped(t, adds(sub, "x", aFile)), of(check.Links, aFile, 3))
	has(t, "a Link's came", stepped(t, adds(sub, "x", aLink)), of(check.Links, aLink, 2))
	has(t, "by an orphan", stepped(t, news(api.Dir, 2), adds(spare, "x", aFile)), of(check.Links, aFile, 3), ofInode(check.Orphan, spare))
	gone := func(in int, name string) func(s *file.Step) {
		return func(s *file.Step) { dir.Of(s, in).Remove(name) }
	}
	has(t, "a File's went", stepped(t, gone(aDir, "file")), of(check.Links, aFile, 1))
	has(t, "a File's last went", stepped(t, gone(aDir, "file"), gone(root, "hard")), ofInode(check.Orphan, aFile))
	// its entries lead to aFile and one still
	has(t, "a Dir's went, with what lies in it", stepped(t, gone(root, "dir")), of(check.Links, root, 3), ofInode(check.Orphan, aDir), ofInode(check.Orphan, sub))
	has(t, "a Dir's went", stepped(t, gone(aDir, "sub")), of(check.Links, aDir, 2), ofInode(check.Orphan, sub))
	has(t, "what is led to, but isn't there", stepped(t, adds(root, "x", spare)), of(check.Dangling, root, spare))
}

// P15.1: inodes with Links that aren't come to, and what lies in them, however deep; those without Links are none.
func TestOrphans(t *testing.T) {
	for _, k := range []int{api.File, api.Dir, api.Link} {
		has(t, fmt.Sprint("Kind ", k), stepped(t, news(k, 1)), ofInode(check.Orphan, spare))
		has(t, fmt.Sprint("Kind ", k, ", without Links"), stepped(t, news(k, 0)))
	}
	// their Links aren't asked
	has(t, "deep", stepped(t, news(api.Dir, 9), news(api.Dir, 9), news(api.File, 9), adds(spare, "x", spare+1), adds(spare+1, "x", spare+2)), ofInode(check.Orphan, spare), ofInode(check.Orphan, spare+1), ofInode(check.Orphan, spare+2))
	has(t, "what is open in an orphan", stepped(t, news(api.Dir, 2), news(api.File, 0), adds(spare, "x", spare+1)), ofInode(check.Orphan, spare))
	has(t, "one that isn't right", spoilt(t, kind(spare, 7), links(spare, 1), inodeBit(spare)), ofInode(check.Wrong, spare), ofInode(check.Orphan, spare))
}

// P15.1: a root that is no Dir any more, or isn't there.
func TestOtherRoots(t *testing.T) {
	var orphans []check.Problem
	for _, ino := range []int{aDir, sub, aFile, aLink, big, empty, one} {
		orphans = append(orphans, ofInode(check.Orphan, ino))
	}
	toFile := changes(root, func(x *inode.Inode) { x.Kind = api.File })
	has(t, "a File", stepped(t, toFile), append([]check.Problem{of(check.Links, root, 0)}, orphans...)...)
	has(t, "a File, led to", stepped(t, toFile, adds(aDir, "x", root), adds(sub, "x", root), setLinks(root, 2)), orphans...)
	has(t, "gone", stepped(t, func(s *file.Step) { s.Release(root) }), orphans...)
	v := stepped(t, func(s *file.Step) { s.Release(root) }, adds(aDir, "x", root))
	has(t, "gone, led to", v, append([]check.Problem{of(check.Dangling, aDir, root)}, orphans...)...)
}

// P15.1: all Kinds at once, by Kind, then Ino, then N, each once.
func TestOrder(t *testing.T) {
	_, x := sample(t)
	v := x.Volume()
	page, gone, numbers := where(t, one, 0), where(t, aLink, 0), where(t, big, ind)
	d, _ := sample(t)
	spoils(d,
		inodeBit(inodes), inodeBit(sub), // Bits
		perm(aLink, 512), kind(spare+1, 9), links(spare+1, 1), inodeBit(spare+1), // Wrong, Lost of its page; an Orphan
		bytesAt(at(t, v, root, 1), 63, "x"), // Garbage in root's second page
		size(empty, 5),
		leads(big, 1, page), leads(big, 2, page), // Twice
		leads(aFile, 0, numbers),
		dataBit(page), dataBit(at(t, v, big, ind, 31)), // Unmarked
		dataBit(pages-1), dataBit(pages-3), // Lost
		size(big, 64),                                                                                                            // Beyond
		entry(at(t, v, aDir, 0), 1, 300, "file"), entry(at(t, v, aDir, 1), 0, 299, "n2"), entry(at(t, v, aDir, 1), 1, 300, "n3"), // Dangling
		entry(at(t, v, aDir, 1), 2, sub, "n4"), entry(at(t, v, aDir, 1), 3, root, "n5"), // Doubled
	)
	want := []check.Problem{
		ofInode(check.Bits, sub), ofInode(check.Bits, inodes),
		ofInode(check.Wrong, aLink), ofInode(check.Wrong, spare+1),
		ofInode(check.Garbage, root), ofInode(check.Garbage, empty),
	}
	want = append(want, pagesOf(v, check.Twice, page, numbers)...)
	want = append(want, pagesOf(v, check.Unmarked, page, at(t, v, big, ind, 31))...)
	want = append(want, lost(gone, where(t, aFile, 0), pages-1, pages-3)...)
	for _, n := range ordered(page, at(t, v, big, 3), at(t, v, big, ind, 0), at(t, v, big, ind, 31), at(t, v, big, dind, 0, 0), at(t, v, big, dind, 0, 31), at(t, v, big, dind, 31, 31)) {
		want = append(want, of(check.Beyond, big, n))
	}
	want = append(want, of(check.Dangling, aDir, 299), of(check.Dangling, aDir, 300), ofInode(check.Doubled, root), ofInode(check.Doubled, sub), of(check.Links, root, 2))
	for _, ino := range []int{aDir, sub, aFile, aLink, big, empty, one, spare + 1} {
		want = append(want, ofInode(check.Orphan, ino))
	}
	has(t, "all", mounted(t, d), want...)
}

// pagesOf is these pages' problems of one Kind, in their order.
func pagesOf(v *file.Volume, kind int, l ...int) (all []check.Problem) {
	for _, n := range ordered(l...) {
		all = append(all, ofPage(kind, n))
	}
	return all
}

// wantNone asks for EIO, and nothing else.
func wantNone(t *testing.T, what string, v *file.Volume) {
	t.Helper()
	if l, e := check.Volume(v); l != nil || e != api.EIO || check.Clean(v) {
		t.Errorf("%s: %v, %d, Clean %v", what, l, e, check.Clean(v))
	}
}

// P15.1: a nil volume, one that was never mounted, and one that is over, with problems and without.
func TestOver(t *testing.T) {
	wantNone(t, "nil", nil)
	wantNone(t, "zero", &file.Volume{})
	for _, f := range []func(s *file.Step){adds(sub, "x", aFile), setLinks(empty, 2)} {
		d, x := sample(t)
		v := x.Volume()
		must(t, v.Do(f), v.Do(changes(sub, func(x *inode.Inode) { x.Uid++ })))
		d.Fuse(1)
		if e := v.Sync(); e != api.EIO || !v.Over() {
			t.Fatalf("Sync: %d", e)
		}
		wantNone(t, "over", v)
		d.Crash()
		wantNone(t, "behind a crash", v)
		has(t, "brought up again", mounted(t, d))
	}
}

// P15.1: a disk that is down without the volume's doing can't be looked at; behind a crash it can.
func TestDown(t *testing.T) {
	d, x := sample(t)
	d.Fuse(0)
	d.Flush()
	if !d.Down() || x.Over() {
		t.Fatal("not down, or over")
	}
	wantNone(t, "down", x.Volume())
	d.Crash()
	has(t, "up", x.Volume())
	has(t, "up again", mounted(t, d))
}

// P15.1: Clean with inodes that are open and have no Links: they are no problem, and what is wrong with them isn't one for it; what is wrong with others is.
func TestClean(t *testing.T) {
	d, x := sample(t)
	v := x.Volume()
	must(t, x.Open(big), x.Open(empty), x.Open(aLink), x.Unlink(root, "big"), x.Rmdir(root, "empty"), x.Unlink(root, "link"))
	for range 2 {
		has(t, "open", v)
		if !check.Clean(v) {
			t.Error("not clean")
		}
		must(t, x.Sync())
	}
	must(t, x.Put(big, 64, "more"), x.Resize(big, 100), x.Chmod(empty, 0))
	has(t, "changed", v)
	must(t, x.Sync())
	spoils(d, size(big, 0), size(empty, 3), inodeBit(aLink))
	l := []check.Problem{ofInode(check.Bits, aLink), ofInode(check.Garbage, empty), of(check.Beyond, big, at(t, v, big, 0)), of(check.Beyond, big, at(t, v, big, 1))}
	has(t, "spoilt", v, l...)
	if !check.Clean(v) {
		t.Error("not clean, though all that is wrong has no Links")
	}
	spoils(d, inodeBit(spare))
	has(t, "and a bit of none", v, append([]check.Problem{l[0], ofInode(check.Bits, spare)}, l[1:]...)...)
	if check.Clean(v) {
		t.Error("clean")
	}
	spoils(d, inodeBit(spare), dataBit(pages-1))
	has(t, "and a page", v, append([]check.Problem{l[0], l[1], ofPage(check.Lost, pages-1)}, l[2:]...)...)
	if check.Clean(v) {
		t.Error("clean")
	}
	spoils(d, dataBit(pages-1), inodeBit(aLink), size(empty, 0), size(big, 100))
	must(t, x.Close(big), x.Close(empty), x.Close(aLink))
	has(t, "closed", v)
	if !check.Clean(v) || v.Spare() != 6 {
		t.Errorf("not clean, or %d spare", v.Spare())
	}
}

// P15.1: of each Kind of problem by itself: Clean is false.
func TestNotClean(t *testing.T) {
	for k, v := range []*file.Volume{
		spoilt(t, inodeBit(1)), spoilt(t, perm(root, 512)), spoilt(t, size(empty, 1)), spoilt(t, leads(big, 1, where(t, one, 0))),
		spoilt(t, dataBit(where(t, one, 0))), spoilt(t, dataBit(pages-1)), spoilt(t, size(one, 0)), stepped(t, adds(sub, "x", 99)),
		stepped(t, adds(root, "x", root), setLinks(root, 5)), spoilt(t, links(one, 18)), stepped(t, news(api.File, 1)),
	} {
		l, e := check.Volume(v)
		if e != api.OK || len(l) == 0 || l[0].Kind != k+1 || check.Clean(v) {
			t.Errorf("Kind %d: %v, %d, Clean %v", k+1, l, e, check.Clean(v))
		}
	}
}

// P15.1: within a step what it put is looked at, and it goes on, is kept or dropped as without.
func TestWithinAStep(t *testing.T) {
	for _, want := range []api.Errno{api.OK, api.EPERM} {
		v := stepped(t)
		if e := v.Do(func(s *file.Step) {
			adds(sub, "x", 99)(s)
			has(t, "a name more", v, of(check.Dangling, sub, 99))
			s.Write(empty, 0, "x")
			s.Truncate(empty, 64)
			has(t, "Garbage", v, ofInode(check.Garbage, empty), of(check.Dangling, sub, 99))
			s.Truncate(empty, 0)
			if want != api.OK {
				s.Fail(want)
			}
		}); e != want {
			t.Errorf("Do: %d, not %d", e, want)
		}
		if want == api.OK {
			has(t, "kept", v, of(check.Dangling, sub, 99))
		} else {
			has(t, "dropped", v)
		}
	}
}

// P15.1: looking changes neither what lasts, nor what waits to last.
func TestLookingChangesNothing(t *testing.T) {
	d, x := sample(t)
	v := x.Volume()
	must(t, x.Chmod(root, 0), x.Put(one, 64, "kept"), v.Do(adds(root, "x", 99)), v.Do(func(s *file.Step) { s.Write(sub, 0, "garbage") }))
	d.Write(0, d.Lasts(0))
	before := lasting(d)
	d.Fuse(0) // not one step of the disk is done
	if l, e := check.Volume(v); len(l) < 2 || e != api.OK || check.Clean(v) {
		t.Errorf("%v, %d", l, e)
	}
	if d.Down() || d.Cached() != 1 || lasting(d) != before {
		t.Error("the disk has changed")
	}
	d.Crash()
	has(t, "behind a crash", mounted(t, d))
}

// lasting is what lasts of all pages.
func lasting(d *disk.Disk) string {
	var l []api.Page
	for i := range d.Pages() {
		l = append(l, d.Lasts(i))
	}
	return fmt.Sprint(l)
}

// P15.1: what is told is the caller's: what is written there isn't told next.
func TestToldTwice(t *testing.T) {
	v := stepped(t, setLinks(root, 9), setLinks(aFile, 9))
	l, _ := check.Volume(v)
	l[0], l[1] = check.Problem{}, check.Problem{}
	has(t, "again", v, of(check.Links, root, 4), of(check.Links, aFile, 2))
}
