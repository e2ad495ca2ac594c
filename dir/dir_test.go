package dir_test

import (
	"fmt"
	"math"
	"slices"
	"strings"
	"testing"

	"narthex/api"
	"narthex/dir"
	"narthex/file"
	"narthex/slot"
)

// P13.1: the document's example.
func TestExample(t *testing.T) {
	p := fresh(t, 10)
	p.must(t, add(root, "a", 2), add(root, "b", 3), remove(root, "a"), add(root, "c", 4))
	l, e := dir.All(p.v, root)
	if want := []slot.Entry{{Ino: 4, Name: "c"}, {Ino: 3, Name: "b"}}; !slices.Equal(l, want) || e != api.OK {
		t.Errorf("%v, %d", l, e)
	}
}

// noInodes are numbers of inodes that aren't there, or aren't taken.
func noInodes() []int {
	return []int{math.MinInt, -65535, -1, 0, spare, spare + 1, inodes, inodes + 1, 127, 128, 129, 65536, 65537, 1<<32 + 1, math.MaxInt}
}

// P13.1: Of an inode that isn't there, one that isn't taken, and one that is no Dir.
func TestOf(t *testing.T) {
	p := fresh(t, 10)
	want := map[int]api.Errno{root: api.OK, other: api.OK, aFile: api.ENOTDIR, aLink: api.ENOTDIR}
	for _, ino := range noInodes() {
		want[ino] = api.EINVAL
	}
	for ino, w := range want {
		e := p.v.Do(func(s *file.Step) {
			s.Write(other, 0, laid(slot.Entry{Ino: 1, Name: "a"}))
			d := dir.Of(s, ino)
			if w != api.OK {
				t.Errorf("Of(%d) goes on", ino)
			}
			if d.Step != s || d.Ino != ino {
				t.Errorf("Of(%d) is %v", ino, d)
			}
			s.Fail(api.EPERM)
		})
		if w == api.OK {
			w = api.EPERM
		}
		if e != w {
			t.Errorf("Of(%d): %d, not %d", ino, e, w)
		}
		p.like(t, fmt.Sprint("Of ", ino))
	}
}

// P13.1: Of inodes that the same step takes, changes and releases.
func TestOfWithinAStep(t *testing.T) {
	p := fresh(t, 10)
	p.v.Do(func(s *file.Step) {
		x := s.Inode(other)
		i := s.New(x)
		dir.Of(s, i).Add("a", i)
		x.Kind = api.File
		s.Change(other, x)
		if n := dir.Of(s, i).Find("a"); n != i || i != spare {
			t.Errorf("Find: %d, inode %d", n, i)
		}
		s.Fail(api.EPERM)
	})
	p.like(t, "failed")
	for want, f := range map[api.Errno]func(s *file.Step){
		api.EINVAL: func(s *file.Step) { s.Release(other) },
		api.ENOTDIR: func(s *file.Step) {
			x := s.Inode(other)
			x.Kind = api.Link
			s.Change(other, x)
		},
	} {
		if e := p.v.Do(func(s *file.Step) { f(s); dir.Of(s, other) }); e != want {
			t.Errorf("%d, not %d", e, want)
		}
		p.like(t, "failed")
	}
}

// P13.1: Find of names that are there, that never were, that were removed, and of wrong names, with empty slots and without.
func TestFind(t *testing.T) {
	p := fresh(t, 10)
	finds := func() (l []call) {
		for _, ino := range []int{root, other} {
			for _, name := range append(wrongNames(), "a", "b", "c", "d", "e", "f", "aa", "ab", "A", "abcdefghijklm", "abcdefghijkln", "abcdefghijkl", "\xff\xfe", "\xff") {
				l = append(l, find(ino, name))
			}
		}
		return l
	}
	p.must(t, finds()...)
	for _, l := range [][]call{
		{add(root, "a", 1), add(root, "b", 258), add(root, "abcdefghijklm", 65535), add(root, "\xff\xfe", 7)},
		{remove(root, "b")},
		{add(root, "c", 9), add(root, "d", 10), add(root, "e", 11), add(other, "a", 12)},
		{set(root, "a", 13), remove(root, "d"), remove(root, "e")},
		{remove(root, "a"), remove(root, "c"), remove(root, "abcdefghijklm"), remove(root, "\xff\xfe")},
		{remove(other, "a")},
	} {
		p.must(t, l...)
		p.must(t, finds()...)
	}
}

// wrongNames are names that may not be, each error's.
func wrongNames() []string {
	return []string{"", ".", "..", "/", "a/", "/a", "\x00", "a\x00", "\x00a", "abcdef/hijklm", "abcdefghijklmn", "/bcdefghijklmn", "\x00bcdefghijklmn", strings.Repeat("a", 257), strings.Repeat("\x00", 13), strings.Repeat("/", 65537)}
}

func rightNames() []string {
	return []string{"a", "...", ".a", "a.", "..a", " ", "\\", "\x01", "\xff", "é", "abcdefghijkl", "abcdefghijklm", ".............", "\xff\xff\xff\xff\xff\xff\xff\xff\xff\xff\xff\xff\xff"}
}

func wrongNumbers() []int {
	return []int{math.MinInt, -65535, -2, -1, 0, 65536, 65537, 65536 + 258, 1 << 32, 1<<32 + 1, 1 << 62, math.MaxInt}
}

// P13.1: Add of each right name and number, and of each wrong one: the name comes ahead of the number, both ahead of EEXIST and of ENOSPC.
func TestAddOfWrong(t *testing.T) {
	for _, room := range []int{0, 1, 2} {
		p := fresh(t, max(room, 1))
		if room == 0 {
			p.lays(t, other, make([]slot.Entry, 4)...)
		}
		if room == 2 {
			p.must(t, add(root, "a", 4), add(root, "abcdefghijklm", 4))
		}
		for _, name := range append(wrongNames(), rightNames()...) {
			for _, ino := range append(wrongNumbers(), 1, 2, 255, 256, 65534, 65535) {
				e := p.step(t, add(root, name, ino))
				if e == api.OK {
					p.must(t, remove(root, name))
				}
			}
		}
	}
}

// P13.1: which of the errors of Add comes first, written out.
func TestAddsErrors(t *testing.T) {
	p := fresh(t, 1)
	p.must(t, add(root, "a", 4))
	for name, want := range map[string]api.Errno{"": api.ENOENT, ".": api.EINVAL, "..": api.EINVAL, "a/": api.EINVAL, "a\x00": api.EINVAL, "abcdefghijklmn": api.ENAMETOOLONG, "////////////////": api.ENAMETOOLONG} {
		for _, ino := range []int{-1, 0, 1, 65535, 65536} {
			p.refused(t, want, add(root, name, ino))
		}
	}
	for _, ino := range []int{-1, 0, 65536} {
		p.refused(t, api.EINVAL, add(root, "a", ino))
		p.refused(t, api.EINVAL, add(root, "x", ino))
	}
	for _, ino := range []int{1, 4, 65535} {
		p.refused(t, api.EEXIST, add(root, "a", ino))
		p.must(t, add(root, "x", ino))
		p.must(t, remove(root, "x"))
	}
	p.must(t, add(root, "b", 1), add(root, "c", 1), add(root, "d", 1))
	p.refused(t, api.EEXIST, add(root, "a", 1))
	p.refused(t, api.EINVAL, add(root, "e", 0))
	p.refused(t, api.ENOSPC, add(root, "e", 1))
}

// P13.1: an entry may lead to any number, and to an inode that isn't there: the volume isn't asked.
func TestEntriesLeadAnywhere(t *testing.T) {
	p := fresh(t, 10)
	for k, ino := range []int{1, 2, 3, 5, 8, 9, 128, 129, 255, 256, 258, 32768, 65535} {
		p.must(t, add(other, fmt.Sprint("n", k), ino))
		if n, e := dir.Find(p.v, other, fmt.Sprint("n", k)); n != ino || e != api.OK {
			t.Errorf("Find: %d, %d, not %d", n, e, ino)
		}
	}
	p.must(t, set(other, "n0", 65535), set(other, "n1", 1), set(other, "n2", 9))
}

// numbered adds so many entries, each in a step of its own.
func (p *pair) numbered(t *testing.T, ino, n int) {
	t.Helper()
	for k := range n {
		p.must(t, add(ino, fmt.Sprint("n", k), 1+k))
	}
}

func size(t *testing.T, v *file.Volume, ino int) int {
	t.Helper()
	x, e := v.Inode(ino)
	if e != api.OK {
		t.Fatal(e)
	}
	return x.Size
}

// P13.1: a new entry takes the first slot that is empty, wherever it is, and the directory grows by a page just if there is none.
func TestFirstEmptySlot(t *testing.T) {
	for at := range 12 {
		p := fresh(t, 10)
		p.numbered(t, other, 12)
		p.must(t, remove(other, fmt.Sprint("n", at)))
		p.must(t, add(other, "new", 99))
		l, _ := dir.All(p.v, other)
		if len(l) != 12 || l[at] != (slot.Entry{Ino: 99, Name: "new"}) || size(t, p.v, other) != 192 {
			t.Errorf("slot %d: %v", at, l)
		}
		p.must(t, add(other, "grows", 100))
		l, _ = dir.All(p.v, other)
		if len(l) != 13 || l[12] != (slot.Entry{Ino: 100, Name: "grows"}) || size(t, p.v, other) != 256 {
			t.Errorf("behind slot %d: %v", at, l)
		}
	}
	for a := range 9 {
		for b := range 9 {
			p := fresh(t, 10)
			p.numbered(t, root, 9)
			if a != b {
				p.must(t, remove(root, fmt.Sprint("n", a)), remove(root, fmt.Sprint("n", b)))
			}
			p.must(t, add(root, "x", 1), add(root, "y", 2), add(root, "z", 3), add(root, "u", 4), add(root, "v", 5), add(root, "w", 6))
		}
	}
}

// P13.1: the directory never gets smaller, and what it has is taken again.
func TestNeverSmaller(t *testing.T) {
	p := fresh(t, 20)
	p.numbered(t, other, 21)
	for _, way := range []func(k int) int{func(k int) int { return k }, func(k int) int { return 20 - k }, func(k int) int { return k * 8 % 21 }} {
		for k := range 21 {
			p.must(t, remove(other, fmt.Sprint("n", way(k))))
		}
		if size(t, p.v, other) != 384 || p.v.Free() != 20-6-1 {
			t.Errorf("Size %d, %d free", size(t, p.v, other), p.v.Free())
		}
		p.must(t, isEmpty(other), all(other))
		p.numbered(t, other, 21)
	}
}

// P13.1: a directory with pages of all ways that layer 10 has.
func TestManyPages(t *testing.T) {
	p := fresh(t, 120)
	p.numbered(t, other, 4*70)
	for _, k := range []int{0, 15, 16, 143, 144, 145, 271, 272, 279} {
		name := fmt.Sprint("n", k)
		p.must(t, find(other, name), set(other, name, 7), find(other, name), remove(other, name), find(other, name))
	}
	for k := range 10 {
		p.must(t, add(other, fmt.Sprint("new", k), 1000+k))
	}
	if size(t, p.v, other) != 71*64 {
		t.Error(size(t, p.v, other))
	}
}

// P13.1: Add till no page is free: ENOSPC, which changes nothing, also of what the step did ahead of it. Room in the directory itself is enough.
func TestNoPageIsFree(t *testing.T) {
	for room := 1; room <= 45; room++ {
		p := fresh(t, room)
		k := 0
		for ; ; k++ {
			if e := p.step(t, add(other, fmt.Sprint("n", k), 1+k)); e != api.OK {
				if e != api.ENOSPC {
					t.Fatalf("Add %d of %d pages: %d", k, room, e)
				}
				break
			}
		}
		if k%4 != 0 || len(p.m.slots[other]) != k {
			t.Fatalf("%d entries in %d pages", k, room)
		}
		p.refused(t, api.ENOSPC, set(other, "n0", 9), remove(other, "n1"), add(other, "x", 1), add(other, "y", 1))
		p.must(t, set(other, "n0", 9), remove(other, "n1"), add(other, "x", 1))
		if p.m.free == 0 {
			p.refused(t, api.ENOSPC, add(root, "a", 1))
		}
	}
}

// P13.1: Add till the step has as many pages as it may: 34 of the directory's, their page of numbers, the inode's page and the bits' are 37.
func TestStepIsFull(t *testing.T) {
	p := fresh(t, 100)
	var l []call
	for k := range 137 {
		l = append(l, add(other, fmt.Sprint("n", k), 1+k))
	}
	if e := p.v.Do(func(s *file.Step) {
		for _, c := range l {
			c.do(s)
		}
	}); e != api.ENOSPC {
		t.Errorf("%d", e)
	}
	p.like(t, "too many pages")
	p.must(t, l[:136]...)
	p.must(t, l[136:]...)
}

// P13.1: Set of names that are there and that aren't, and of wrong numbers: ENOENT comes first.
func TestSet(t *testing.T) {
	p := fresh(t, 10)
	p.refused(t, api.ENOENT, set(root, "n0", 1))
	p.numbered(t, root, 9)
	for k := range 9 {
		name := fmt.Sprint("n", k)
		for _, ino := range []int{1, 2, 256, 65535, 1 + k, 1 + k} {
			p.must(t, set(root, name, ino), find(root, name))
		}
		for _, ino := range wrongNumbers() {
			p.refused(t, api.EINVAL, set(root, name, ino))
		}
	}
	p.must(t, remove(root, "n4"))
	for _, name := range append(wrongNames(), "x", "n", "n9", "N0", "n00", "n4") {
		for _, ino := range append(wrongNumbers(), 1, 65535) {
			p.refused(t, api.ENOENT, set(root, name, ino))
		}
	}
}

// P13.1: Remove of each place, and of names that aren't there.
func TestRemove(t *testing.T) {
	for at := range 9 {
		p := fresh(t, 10)
		p.refused(t, api.ENOENT, remove(other, "n0"))
		p.numbered(t, other, 9)
		for _, name := range append(wrongNames(), "x", "n", "n9", "N0", "n00") {
			p.refused(t, api.ENOENT, remove(other, name))
		}
		name := fmt.Sprint("n", at)
		p.must(t, remove(other, name))
		if l, _ := dir.All(p.v, other); len(l) != 8 {
			t.Errorf("%d: %v", at, l)
		}
		p.refused(t, api.ENOENT, remove(other, name))
		p.refused(t, api.ENOENT, set(other, name, 1))
		p.must(t, find(other, name))
		p.refused(t, api.ENOENT, remove(root, "n0"))
	}
}

// P13.1: Empty ahead of the first Add, behind it, and behind the last Remove, of one directory and the other.
func TestEmpty(t *testing.T) {
	empty := func(p *pair, ino int) (is bool) {
		p.v.Do(func(s *file.Step) { is = dir.Of(s, ino).Empty() })
		return is
	}
	for n := 1; n <= 9; n++ {
		for last := range n {
			p := fresh(t, 10)
			if !empty(p, root) || !empty(p, other) {
				t.Error("ahead of the first Add")
			}
			p.numbered(t, root, n)
			if empty(p, root) || !empty(p, other) {
				t.Error("behind Adds")
			}
			for k := range n {
				if k != last {
					p.must(t, remove(root, fmt.Sprint("n", k)))
				}
			}
			if empty(p, root) {
				t.Errorf("entry %d of %d is left", last, n)
			}
			p.must(t, remove(root, fmt.Sprint("n", last)))
			if !empty(p, root) {
				t.Errorf("behind Remove %d of %d", last, n)
			}
		}
	}
}

// P13.1: Find and All of a volume: what they answer, each error, and 0 and none with one.
func TestOfAVolume(t *testing.T) {
	p := fresh(t, 10)
	p.must(t, add(root, "a", 3), add(root, "b", 65535), add(other, "a", 4), remove(root, "a"))
	for _, c := range []struct {
		ino  int
		name string
		want int
	}{{root, "a", 0}, {root, "b", 65535}, {other, "a", 4}, {other, "b", 0}, {root, "", 0}, {root, "..", 0}, {root, "abcdefghijklmn", 0}} {
		if n, e := dir.Find(p.v, c.ino, c.name); n != c.want || e != api.OK {
			t.Errorf("Find(%d, %q): %d, %d", c.ino, c.name, n, e)
		}
	}
	if l, e := dir.All(p.v, root); !slices.Equal(l, []slot.Entry{{Ino: 65535, Name: "b"}}) || e != api.OK {
		t.Errorf("All: %v, %d", l, e)
	}
	for _, ino := range []int{aFile, aLink} {
		wantError(t, p.v, ino, api.ENOTDIR)
	}
	for _, ino := range noInodes() {
		wantError(t, p.v, ino, api.EINVAL)
	}
	p.like(t, "asked")
}

// wantError asks for Find's and All's error.
func wantError(t *testing.T, v *file.Volume, ino int, want api.Errno) {
	t.Helper()
	for _, name := range []string{"a", "b", "x", "", "."} {
		if n, e := dir.Find(v, ino, name); n != 0 || e != want {
			t.Errorf("Find(%d, %q): %d, %d, not %d", ino, name, n, e, want)
		}
	}
	if l, e := dir.All(v, ino); len(l) != 0 || e != want {
		t.Errorf("All(%d): %v, %d, not %d", ino, l, e, want)
	}
}

// P13.1: of a volume that is over, of none, and of one whose disk is down: EIO, ahead of the inode's errors.
func TestOverAndDown(t *testing.T) {
	p := fresh(t, 10)
	p.must(t, add(root, "a", 3))
	p.d.Fuse(0)
	if p.v.Sync() != api.EIO || !p.v.Over() {
		t.Fatal("it isn't over")
	}
	down := fresh(t, 10)
	down.must(t, add(root, "a", 3))
	if down.v.Sync() != api.OK {
		t.Fatal("Sync")
	}
	down.d.Fuse(0)
	if down.d.Flush() != api.EIO || down.v.Over() {
		t.Fatal("it is over")
	}
	for _, v := range []*file.Volume{nil, p.v, down.v} {
		for _, ino := range []int{root, other, aFile, spare} {
			wantError(t, v, ino, api.EIO)
		}
	}
	for _, v := range []*file.Volume{nil, p.v} {
		wantError(t, v, 0, api.EIO)
		wantError(t, v, 99, api.EIO)
	}
}

// P13.1: what All answers is the caller's own.
func TestAllIsNewMemory(t *testing.T) {
	p := fresh(t, 10)
	p.numbered(t, root, 6)
	spoil := func(l []slot.Entry) {
		for k := range l {
			l[k] = slot.Entry{Ino: 9, Name: "spoilt"}
		}
		_ = append(l, slot.Entry{Ino: 9, Name: "spoilt"})
	}
	l, _ := dir.All(p.v, root)
	spoil(l)
	p.like(t, "spoilt")
	if e := p.v.Do(func(s *file.Step) {
		d := dir.Of(s, root)
		spoil(d.All())
		if d.Find("n0") != 1 || d.Find("spoilt") != 0 || len(d.All()) != 6 {
			t.Error("spoilt")
		}
	}); e != api.OK {
		t.Error(e)
	}
	p.like(t, "spoilt")
}

// P13.1: one directory of a step, and several of one inode, tell what the step did, by whichever.
func TestSeveralInOneStep(t *testing.T) {
	p := fresh(t, 10)
	if e := p.v.Do(func(s *file.Step) {
		d, same, other := dir.Of(s, root), dir.Of(s, root), dir.Of(s, other)
		d.Add("a", 3)
		if same.Find("a") != 3 || same.Empty() || other.Find("a") != 0 || !other.Empty() {
			t.Error("behind Add")
		}
		same.Set("a", 4)
		other.Add("a", 5)
		if d.Find("a") != 4 || other.Find("a") != 5 {
			t.Error("behind Set")
		}
		same.Add("b", 6)
		d.Remove("a")
		if l := same.All(); !slices.Equal(l, []slot.Entry{{Ino: 6, Name: "b"}}) {
			t.Errorf("behind Remove: %v", l)
		}
		if d.Read(root, 18, 2) != "\x01b" || d.Inode(root).Size != 64 {
			t.Error("the step itself")
		}
	}); e != api.OK {
		t.Error(e)
	}
	p.m.slots[root] = []slot.Entry{{}, {Ino: 6, Name: "b"}, {}, {}}
	p.m.slots[other] = []slot.Entry{{Ino: 5, Name: "a"}, {}, {}, {}}
	p.m.free -= 2
	p.like(t, "behind it")
}

// eachCall is right calls of each kind for a directory with n0 and n1.
func eachCall(ino int) []call {
	return []call{find(ino, "n0"), add(ino, "new", 9), set(ino, "n0", 9), remove(ino, "n1"), all(ino), isEmpty(ino)}
}

// P13.1: calls ahead of one that fails are undone; those behind it aren't done, also if the function recovers.
func TestCallsBehindAFailure(t *testing.T) {
	for want, failing := range map[api.Errno][]call{
		api.EINVAL:       {add(root, "x", 0), add(root, "x/", 1), set(root, "n0", 65536), find(spare, "x"), all(0)},
		api.ENOENT:       {add(root, "", 1), set(root, "x", 1), remove(root, "x"), remove(other, "")},
		api.EEXIST:       {add(root, "n0", 1), add(root, "n3", 1)},
		api.ENAMETOOLONG: {add(root, "abcdefghijklmn", 1)},
		api.ENOTDIR:      {find(aFile, "x"), isEmpty(aLink)},
	} {
		for _, c := range failing {
			p := fresh(t, 10)
			p.numbered(t, root, 4)
			p.must(t, add(other, "n0", 1), add(other, "n1", 1))
			calls := append(eachCall(other), c)
			p.refused(t, want, append(calls, eachCall(root)...)...)
			if e := p.v.Do(func(s *file.Step) {
				d := dir.Of(s, root)
				goesOn(func() { c.do(s) })
				for _, later := range eachCall(root) {
					if goesOn(func() { later.on(d) }) || goesOn(func() { later.do(s) }) {
						t.Errorf("%v behind %v goes on", later, c)
					}
				}
			}); e != want {
				t.Errorf("%v, recovered: %d, not %d", c, e, want)
			}
			p.like(t, "recovered")
			p.must(t, eachCall(root)...)
		}
	}
}

// goesOn tells whether a function doesn't panic.
func goesOn(f func()) (does bool) {
	defer func() { does = recover() == nil }()
	f()
	return
}

// P13.1: calls on a directory whose inode the step has released fail with EINVAL.
func TestReleasedDirectory(t *testing.T) {
	for _, c := range eachCall(other) {
		p := fresh(t, 10)
		p.numbered(t, other, 2)
		if e := p.v.Do(func(s *file.Step) {
			d := dir.Of(s, other)
			s.Release(other)
			c.on(d)
		}); e != api.EINVAL {
			t.Errorf("%v: %d", c, e)
		}
		p.like(t, "failed")
	}
}

// P13.1: a directory of a step that isn't being done neither panics nor does anything.
func TestStepsThatAreNotDone(t *testing.T) {
	p := fresh(t, 10)
	p.numbered(t, root, 2)
	var ended, failed dir.Dir
	p.v.Do(func(s *file.Step) { ended = dir.Of(s, root) })
	p.v.Do(func(s *file.Step) { failed = dir.Of(s, root); s.Fail(api.EPERM) })
	for name, d := range map[string]dir.Dir{"nil": dir.Of(nil, root), "zero": {}, "of a zero step": dir.Of(&file.Step{}, root), "ended": ended, "failed": failed, "again": dir.Of(ended.Step, root)} {
		for _, c := range append(eachCall(root), add(root, "", 1), add(root, "n0", 0), set(root, "n0", 0), set(root, "x", 1), remove(root, ""), find(root, "")) {
			if a := c.on(d); a != "" && a != "0" && a != "true" {
				t.Errorf("%s: %v: %s", name, c, a)
			}
		}
		p.like(t, name)
	}
}
