package file_test

import (
	"fmt"
	"maps"
	"math"
	"slices"
	"testing"

	"narthex/api"
	"narthex/file"
	"narthex/inode"
	"narthex/span"
)

// inodes on either side of each edge, of a volume that has so many.
func edgeInodes(inodes int) []int {
	return []int{math.MinInt, math.MinInt + 1, -inodes, -1, 0, 1, 2, 3, inodes - 1, inodes, inodes + 1, 128, 129, 1<<16 + 1, 1<<32 + 1, math.MaxInt - 1, math.MaxInt}
}

// places in a file, and sizes, on either side of each edge.
func edgePlaces(size int) []int {
	return []int{
		math.MinInt, math.MinInt + 1, -api.MaxFile, -1, 0, 1, 63, 64, 65, size - 1, size, size + 1,
		64*4 - 1, 64 * 4, 64*36 - 1, 64 * 36, 64*68 - 1, 64 * 68,
		api.MaxFile - 1, api.MaxFile, api.MaxFile + 1, 1 << 32, math.MaxInt - 1, math.MaxInt,
	}
}

// wrongInodes are right but for one number each, and of Kind None.
func wrongInodes() []inode.Inode {
	with := func(f func(x *inode.Inode)) inode.Inode {
		x := aFile(1)
		f(&x)
		return x
	}
	return []inode.Inode{
		{}, {Links: 1}, {Perm: 420, Links: 1},
		with(func(x *inode.Inode) { x.Kind = -1 }), with(func(x *inode.Inode) { x.Kind = 4 }), with(func(x *inode.Inode) { x.Kind = 257 }),
		with(func(x *inode.Inode) { x.Perm = -1 }), with(func(x *inode.Inode) { x.Perm = 512 }),
		with(func(x *inode.Inode) { x.Uid = -1 }), with(func(x *inode.Inode) { x.Uid = 65536 }),
		with(func(x *inode.Inode) { x.Links = -1 }), with(func(x *inode.Inode) { x.Links = 41 }), with(func(x *inode.Inode) { x.Links = math.MaxInt }),
	}
}

// edgeInodesThatAreRight have each number at an edge, and page numbers and Sizes that aren't looked at.
func edgeInodesThatAreRight() []inode.Inode {
	return []inode.Inode{
		{Kind: api.File}, {Kind: api.Dir}, {Kind: api.Link},
		{Kind: api.File, Perm: 511, Uid: 65535, Links: 40},
		{Kind: api.Dir, Links: 2, Size: -1, Direct: [4]int{-1, 1, 600, math.MaxInt}, Ind: math.MinInt, Dind: 42},
		{Kind: api.Link, Links: 1, Size: math.MaxInt, Direct: [4]int{50, 50, 50, 50}, Ind: 51, Dind: 51},
		{Kind: api.File, Links: 1, Size: api.MaxFile + 1},
	}
}

// P11.1: of a Step and of a volume, inodes on either side of each edge, that are taken and that aren't.
func TestEachInode(t *testing.T) {
	for _, inodes := range []int{6, 7} {
		p := fresh(t, 100, inodes)
		p.must(t, add(aFile(1)), add(aFile(2)), write(3, 5, "abc"), release(2))
		for _, i := range edgeInodes(inodes) {
			x, e := p.v.Inode(i)
			if want, wantE := p.m.inode(i); x != want || e != wantE {
				t.Errorf("Inode(%d): %v, %d, not %v, %d", i, x, e, want, wantE)
			}
			before := p.m
			for _, l := range [][]call{
				{look(i)}, {read(i, 0, 9)}, {change(i, aFile(4))}, {write(i, 1, "x")}, {write(i, 1, "")},
				{truncate(i, 0)}, {truncate(i, 99)}, {truncate(i, 2)}, {release(i)}, {release(i), look(i)}, {release(i), release(i)},
			} {
				_, taken := before.taken(i)
				if e := p.step(t, l...); l[0].name != "Inode" && (taken == api.OK) != (e == api.OK) && len(l) == 1 {
					t.Errorf("%v: %d", l, e)
				}
			}
		}
	}
}

// P11.1: which places are read: at most n bytes, up to Size.
func TestEachRead(t *testing.T) {
	p := fresh(t, 200, 4)
	p.must(t, add(aFile(1)), write(2, 60, "abcdefgh"), write(2, 64*35+10, "i"), write(2, 64*68+63, "jk"))
	p.must(t, add(aFile(1)), add(aFile(1)), truncate(4, api.MaxFile), write(4, 64*1059, "last"), release(3))
	for _, i := range []int{1, 2, 3, 4, 0, 5} {
		size := 0
		if k, e := p.m.taken(i); e == api.OK {
			size = len(k.bytes)
		}
		for _, off := range edgePlaces(size) {
			for _, n := range edgePlaces(size) {
				text, e := p.v.Read(i, off, n)
				want, wantE := p.m.read(i, off, n)
				if text != want || e != wantE {
					t.Fatalf("Read(%d, %d, %d): %q, %d, not %q, %d", i, off, n, text, e, want, wantE)
				}
				if answers, e := do(p.v, []call{read(i, off, n)}); e != wantE || e == api.OK && answers[0] != want {
					t.Fatalf("a Step's Read(%d, %d, %d): %q, %d, not %q, %d", i, off, n, answers, e, want, wantE)
				}
			}
		}
	}
	p.like(t, "behind all Reads")
}

// P11.1: New's and Change's inodes, right and wrong; page numbers and Sizes aren't looked at, and stay.
func TestNewAndChange(t *testing.T) {
	p := fresh(t, 100, 20)
	for _, x := range edgeInodesThatAreRight() {
		p.must(t, add(x))
	}
	p.must(t, write(2, 64*40, "far"), write(3, 0, "near"))
	for _, x := range edgeInodesThatAreRight() {
		for _, i := range []int{2, 3, 4} {
			p.must(t, change(i, x), look(i))
		}
	}
	p.must(t, change(1, aFile(1)))
	p.must(t, change(1, inode.Inode{Kind: api.Dir, Perm: 493, Links: 2}))
	for _, x := range wrongInodes() {
		p.refused(t, api.EINVAL, add(x))
		p.refused(t, api.EINVAL, change(2, x))
		p.refused(t, api.EINVAL, write(2, 0, "lost"), change(2, x))
		p.refused(t, api.EINVAL, change(19, x))
		p.refused(t, api.EINVAL, change(21, x))
	}
	for p.m.spare() > 0 {
		p.must(t, add(aFile(1)))
	}
	// a wrong inode is told of ahead of there being none
	p.refused(t, api.EINVAL, add(inode.Inode{}))
	p.refused(t, api.ENOSPC, add(aFile(1)))
}

// P11.1: the least inode that isn't taken, also behind releases; the root's, too, is released and taken.
func TestLeastInode(t *testing.T) {
	p := fresh(t, 60, 9)
	p.must(t, add(aFile(1)), add(aFile(1)), add(aFile(1)), add(aFile(1)), add(aFile(1)))
	p.must(t, release(3), release(5))
	for _, want := range []string{"3", "5", "7", "8", "9"} {
		answers, e := do(p.v, []call{add(aFile(1))})
		if e != api.OK || answers[0] != want {
			t.Errorf("New: %v, %d, not %s", answers, e, want)
		}
		p.m.add(aFile(1))
	}
	p.like(t, "taken")
	p.refused(t, api.ENOSPC, add(aFile(1)))
	p.must(t, release(9), add(aFile(2)), release(1), add(aFile(0)))
	p.refused(t, api.ENOSPC, add(aFile(1)))
	p.refused(t, api.ENOSPC, release(4), add(aFile(1)), add(aFile(1)))
}

// P11.1: the free page with the least bit, also behind releases and Truncates, for data and for numbers.
func TestLeastPage(t *testing.T) {
	p := fresh(t, 80, 4)
	data := p.v.Plan().Data()
	has := func(i int, want ...int) {
		t.Helper()
		x, _ := p.v.Inode(i)
		indices, numbers := pagesOf(t, p.v, x)
		got := slices.Sorted(maps.Values(indices))
		got = append(got, numbers...)
		slices.Sort(got)
		for k := range want {
			want[k] += data
		}
		if !slices.Equal(got, want) {
			t.Errorf("inode %d has the pages %v, not %v", i, got, want)
		}
	}
	p.must(t, add(aFile(1)), add(aFile(1)), add(aFile(1)))
	p.must(t, write(2, 0, many("a", 3)), write(3, 0, many("b", 3)))
	has(2, 0, 1, 2)
	has(3, 3, 4, 5)
	p.must(t, truncate(2, 64))
	p.must(t, write(3, 64*3, "c"))
	has(3, 1, 3, 4, 5)
	p.must(t, write(4, 64*36, "d"))
	has(4, 2, 6, 7)
	p.must(t, release(2), truncate(3, 64))
	has(3, 3)
	p.must(t, add(aFile(1)), write(2, 64*4, "e"))
	has(2, 0, 1)
	p.must(t, write(2, 64*1059, "f"), truncate(4, 0), write(3, 64, many("g", 3)))
	has(2, 0, 1, 4, 5, 8)
	has(3, 2, 3, 6, 7)
}

// lengths and places of Writes about the edges of pages and depths.
func edgeWrites() (l [][2]int) {
	for _, index := range []int{0, 1, 3, 4, 5, 35, 36, 37, 67, 68, 69, 1058} {
		for _, within := range []int{0, 1, 63} {
			for _, n := range []int{1, 2, 63, 64, 65, 128, 129} {
				l = append(l, [2]int{64*index + within, n})
			}
		}
	}
	return append(l, [2]int{64 * 1059, 64}, [2]int{api.MaxFile - 1, 1}, [2]int{64*1059 + 5, 59}, [2]int{64*1058 + 63, 65}, [2]int{api.MaxFile - 64*8, 64 * 8})
}

// P11.1, P11.2: Writes within a page, over the edges of pages and of the depths, behind Size, over what is there; then sizes about what was written.
func TestEachWrite(t *testing.T) {
	p := fresh(t, 120, 4)
	c := chance(3)
	for _, w := range edgeWrites() {
		off, n := w[0], min(w[1], api.MaxFile-w[0])
		p.must(t, add(aFile(1)), write(2, off, c.text(n)))
		p.must(t, write(2, off+n/2, c.text(n-n/2)), write(2, max(off-9, 0), c.text(3)))
		for _, size := range []int{off + n + 1, off + n, off + n - 1, off + 1, off, off - 1} {
			if size >= 0 && size <= api.MaxFile {
				p.must(t, truncate(2, size))
				p.must(t, truncate(2, min(size+70, api.MaxFile)))
			}
		}
		p.must(t, write(2, off/2, c.text(n)))
		p.must(t, release(2))
		if p.v.Free() != p.v.Plan().Room() {
			t.Fatalf("%v: %d are free", w, p.v.Free())
		}
	}
}

// P11.1: the chapter's second example, and what stands between.
func TestExampleOfWrite(t *testing.T) {
	p := fresh(t, 60, 4)
	p.must(t, add(aFile(1)))
	free := p.v.Free()
	p.must(t, write(2, 2304, "z"))
	if p.v.Free() != free-3 {
		t.Errorf("%d are free, of %d", p.v.Free(), free)
	}
	if text, e := p.v.Read(2, 0, api.MaxFile); e != api.OK || text != zeros(2304)+"z" {
		t.Errorf("%q, %d", text, e)
	}
}

// P11.1: the errors of Write and Truncate, at places on either side of each edge; none of them changes anything.
func TestWrongWritesAndTruncates(t *testing.T) {
	p := fresh(t, 120, 4)
	p.must(t, add(aFile(1)), write(2, 100, "abc"))
	for _, off := range edgePlaces(103) {
		for _, text := range []string{"", "x", zeros(64), zeros(api.MaxFile), zeros(api.MaxFile + 1)} {
			e := p.step(t, write(2, off, text), truncate(2, 103), write(2, 100, "abc"))
			if (text == "" && off >= 0) && e != api.OK || off < 0 && e != api.EINVAL || off >= api.MaxFile && text != "" && e != api.EFBIG {
				t.Errorf("Write of %d bytes at %d: %d", len(text), off, e)
			}
			p.refused(t, api.EINVAL, write(3, off, text))
			p.refused(t, api.EINVAL, write(5, off, text))
		}
	}
	p.refused(t, api.ENOSPC, write(2, 0, zeros(api.MaxFile)))
	p.refused(t, api.EFBIG, write(2, 1, zeros(api.MaxFile)))
	p.refused(t, api.EFBIG, write(2, 0, zeros(api.MaxFile+1)))
	for _, size := range edgePlaces(103) {
		e := p.step(t, truncate(2, size))
		if size < 0 && e != api.EINVAL || size > api.MaxFile && e != api.EFBIG || size >= 0 && size <= api.MaxFile && e != api.OK {
			t.Errorf("Truncate to %d: %d", size, e)
		}
		p.refused(t, api.EINVAL, truncate(3, size))
		p.refused(t, api.EINVAL, truncate(5, size))
	}
}

// P11.1: of "" nothing: no page is taken, and Size doesn't grow.
func TestWriteOfNothing(t *testing.T) {
	p := fresh(t, 60, 4)
	p.must(t, add(aFile(1)))
	for _, off := range []int{0, 1, 64, 2304, api.MaxFile, api.MaxFile + 1, math.MaxInt} {
		before := lookedAt(t, p)
		p.must(t, write(2, off, ""))
		if lookedAt(t, p) != before || p.v.Free() != p.v.Plan().Room() {
			t.Errorf("at %d: %v", off, lookedAt(t, p))
		}
	}
	p.refused(t, api.EINVAL, write(2, -1, ""))
}

func lookedAt(t *testing.T, p *pair) inode.Inode {
	t.Helper()
	x, e := p.v.Inode(2)
	if e != api.OK {
		t.Fatal(e)
	}
	return x
}

// P11.1, P11.2: too few free pages, for data, for numbers, and for each of those that a page of depth 2 needs.
func TestTooFewFreePages(t *testing.T) {
	for free := range 5 {
		for _, w := range [][2]int{{0, 1}, {0, 5}, {3, 2}, {4, 1}, {35, 1}, {36, 1}, {67, 2}, {1059, 1}, {0, 3}} {
			p := fresh(t, 60, 4)
			p.must(t, add(aFile(1)), add(aFile(1)))
			for index := 0; p.v.Free() > free; index++ {
				p.must(t, write(2, 64*index, "x"))
			}
			if p.v.Free() != free {
				t.Fatalf("%d are free, not %d", p.v.Free(), free)
			}
			var indices []int
			for i := range w[1] {
				indices = append(indices, w[0]+i)
			}
			needs := w[1] + span.Meta(indices...)
			e := p.step(t, write(3, 64*w[0], many("y", w[1])))
			if (e == api.OK) != (needs <= free) || e != api.OK && e != api.ENOSPC {
				t.Errorf("pages %d and on, %d, with %d free: %d", w[0], w[1], free, e)
			}
			if e == api.OK && p.v.Free() != free-needs {
				t.Errorf("pages %d and on, %d: %d of %d are free", w[0], w[1], p.v.Free(), free)
			}
		}
	}
	// all of a volume's pages
	p := fresh(t, 60, 4)
	p.must(t, add(aFile(1)), write(2, 0, many("x", 14)))
	if p.v.Free() != 0 {
		t.Errorf("%d are free", p.v.Free())
	}
	p.refused(t, api.ENOSPC, write(2, 64*14, "x"))
	p.must(t, write(2, 0, many("y", 14)))
	p.must(t, truncate(2, 64*13), write(1, 0, "z"))
	p.refused(t, api.ENOSPC, write(1, 64, "z"))
}

// P11.1: more pages than a step has room for. What takes none of it doesn't count: pages that are only read, and what is put twice.
func TestMorePagesThanAStepHasRoomFor(t *testing.T) {
	p := fresh(t, 300, 128)
	p.must(t, add(aFile(1)))
	// 34 pages, and Ind, the data bits and the inode
	p.must(t, write(2, 0, many("a", 34)))
	p.must(t, release(2), add(aFile(1)))
	p.refused(t, api.ENOSPC, write(2, 0, many("a", 35)))
	p.refused(t, api.ENOSPC, write(2, 0, many("a", 300)))
	p.must(t, write(2, 0, many("a", 20)), write(2, 64*10, many("b", 20)), write(2, 64*5, many("c", 15)))
	p.must(t, write(2, 64*30, many("d", 30)))
	// pages that are there: nothing else is put
	p.must(t, write(2, 0, many("e", stepRoom)))
	p.refused(t, api.ENOSPC, write(2, 0, many("e", stepRoom+1)))
	p.refused(t, api.ENOSPC, write(2, 0, many("e", stepRoom)), change(2, aFile(3)))
	p.must(t, write(2, 0, many("f", stepRoom)), read(2, 0, api.MaxFile), change(2, aFile(1)))
	// inodes, of which two lie on a page
	for i := 3; i <= 128; i++ {
		if _, e := do(p.v, []call{add(aFile(1))}); e != api.OK {
			t.Fatalf("New: %d", e)
		}
		p.m.add(aFile(1))
	}
	var l []call
	for i := 1; i <= 2*stepRoom; i++ {
		l = append(l, change(i, aFile(5)))
	}
	p.must(t, l...)
	p.must(t, l...)
	for i := range l {
		l[i].x = aFile(6)
	}
	p.refused(t, api.ENOSPC, append(l, change(2*stepRoom+1, aFile(6)))...)
	p.refused(t, api.ENOSPC, append(l, release(2))...)
}

// P11.1, P11.2: Truncates of files with holes, of all depths, to each edge, up and down.
func TestTruncateOfFilesWithHoles(t *testing.T) {
	indices := []int{0, 2, 3, 4, 20, 35, 36, 67, 68, 500, 1058, 1059}
	var sizes []int
	for _, i := range indices {
		sizes = append(sizes, 64*i, 64*i+1, 64*i+63, 64*i+64)
	}
	for _, size := range sizes {
		for _, then := range []int{0, size / 2, size, min(size+1, api.MaxFile), min(size+65, api.MaxFile), api.MaxFile} {
			p := fresh(t, 110, 2)
			p.must(t, add(aFile(1)))
			for _, i := range indices {
				p.m.write(2, 64*i, fmt.Sprint(i, "xx"))
				p.m.write(2, 64*i+60, "yyyy")
				if _, e := do(p.v, []call{write(2, 64*i, fmt.Sprint(i, "xx")), write(2, 64*i+60, "yyyy")}); e != api.OK {
					t.Fatalf("Write: %d", e)
				}
			}
			p.must(t, truncate(2, size))
			p.must(t, truncate(2, then), read(2, 0, api.MaxFile))
		}
	}
}

// P11.1: a Truncate to more is read as 0, also where the last page had bytes.
func TestTruncateBlanksOut(t *testing.T) {
	p := fresh(t, 60, 2)
	p.must(t, add(aFile(1)), write(2, 0, many("x", 3)))
	p.must(t, truncate(2, 70))
	p.must(t, truncate(2, 200))
	if text, e := p.v.Read(2, 60, 100); e != api.OK || text != "xxxxxxxxxx"+zeros(90) {
		t.Errorf("%q, %d", text, e)
	}
	// within one step
	p.must(t, write(2, 0, many("y", 3)), truncate(2, 1), write(2, 130, "z"), read(2, 0, 200))
	if text, e := p.v.Read(2, 0, 200); e != api.OK || text != "y"+zeros(129)+"z" {
		t.Errorf("%q, %d", text, e)
	}
}

// P11.1: a greater file than MaxFile can't be; one of MaxFile can, of which each page is there but for those that the disk has no room for.
func TestGreatestFile(t *testing.T) {
	p := fresh(t, 512, 1)
	p.must(t, truncate(1, api.MaxFile))
	if p.v.Free() != p.v.Plan().Room() {
		t.Errorf("%d are free", p.v.Free())
	}
	p.refused(t, api.EFBIG, write(1, api.MaxFile-3, "abcd"))
	p.must(t, write(1, api.MaxFile-4, "abcd"))
	for index := 0; ; index += 10 {
		l := []call{write(1, 64*index, many("x", 10))}
		next, _, want := p.m.on(l)
		_, e := do(p.v, l)
		if e != want {
			t.Fatalf("page %d: %d, not %d", index, e, want)
		}
		p.m = next
		if e != api.OK {
			break
		}
	}
	p.like(t, "full")
	if p.v.Free() > 10 {
		t.Errorf("%d are free", p.v.Free())
	}
	p.must(t, truncate(1, 64*100+1))
	p.must(t, truncate(1, 0))
	if p.v.Free() != p.v.Plan().Room() {
		t.Errorf("%d are free", p.v.Free())
	}
}

// P11.1: what the volume tells within a step is as the step has it.
func TestVolumeWithinAStep(t *testing.T) {
	p := fresh(t, 60, 4)
	e := p.v.Do(func(s *file.Step) {
		i := s.New(aFile(1))
		s.Write(i, 0, "abc")
		if text, e := p.v.Read(i, 0, 9); text != "abc" || e != api.OK {
			t.Errorf("Read: %q, %d", text, e)
		}
		if p.v.Free() != 14 || p.v.Spare() != 2 {
			t.Errorf("%d free, %d spare", p.v.Free(), p.v.Spare())
		}
		s.Fail(api.EPERM)
	})
	if e != api.EPERM {
		t.Error(e)
	}
	p.like(t, "failed")
}
