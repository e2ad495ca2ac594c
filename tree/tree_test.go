package tree_test

import (
	"fmt"
	"math"
	"slices"
	"strings"
	"testing"

	"narthex/api"
	"narthex/slot"
	"narthex/tree"
)

// P14.1: the document's example.
func TestExample(t *testing.T) {
	p := fresh(t, 100, 10)
	a := p.made(t, mkdir(root, "a", 493, 0))
	b := p.made(t, create(a, "b", 420, 0))
	p.must(t, rename(a, "b", root, "c"))
	if l, e := p.x.List(root); !slices.Equal(l, []slot.Entry{{Ino: a, Name: "a"}, {Ino: b, Name: "c"}}) || e != api.OK {
		t.Errorf("%v, %d", l, e)
	}
	p.must(t, rmdir(root, "a"))
	if l, e := p.x.List(root); !slices.Equal(l, []slot.Entry{{Ino: b, Name: "c"}}) || e != api.OK {
		t.Errorf("%v, %d", l, e)
	}
}

// The inodes of a sample: /dir with sub, which is empty, and file; /hard, another name of file; /link; /empty; gone, a File of 4 bytes, and goneDir, which are open and have no Links.
const (
	aDir = 2 + iota
	sub
	aFile
	aLink
	empty
	gone
	goneDir
	spare

	inodes = 10
)

const (
	long  = "abcdefghijklm"  // as long as may be
	tooLg = "abcdefghijklmn" // and longer
)

func sample(t *testing.T) *pair {
	t.Helper()
	p := fresh(t, 120, inodes)
	p.must(t, mkdir(root, "dir", 493, 7), mkdir(aDir, "sub", 448, 8), create(aDir, "file", 420, 7), symlink(root, "link", "dir/file", 9))
	p.must(t, mkdir(root, "empty", 511, 0), create(root, "gone", 384, 1), mkdir(root, "goneDir", 0, 65535))
	p.must(t, link(root, "hard", aFile), put(aFile, 60, "hello"), put(gone, 0, "gone"))
	p.must(t, open(gone), open(gone), open(goneDir), unlink(root, "gone"), rmdir(root, "goneDir"))
	return p
}

// P14.1: what is told of inodes that were just made, written out.
func TestAttrs(t *testing.T) {
	p := sample(t)
	for _, want := range []api.Attr{
		{Ino: root, Kind: api.Dir, Perm: 493, Links: 4, Size: 128},
		{Ino: aDir, Kind: api.Dir, Perm: 493, Uid: 7, Links: 3, Size: 64},
		{Ino: sub, Kind: api.Dir, Perm: 448, Uid: 8, Links: 2},
		{Ino: aFile, Kind: api.File, Perm: 420, Uid: 7, Links: 2, Size: 65},
		{Ino: aLink, Kind: api.Link, Perm: 511, Uid: 9, Links: 1, Size: 8},
		{Ino: empty, Kind: api.Dir, Perm: 511, Links: 2},
		{Ino: gone, Kind: api.File, Perm: 384, Uid: 1, Size: 4},
		{Ino: goneDir, Kind: api.Dir, Uid: 65535},
	} {
		if a, e := p.x.Getattr(want.Ino); a != want || e != api.OK {
			t.Errorf("Getattr(%d): %v, %d, not %v", want.Ino, a, e, want)
		}
	}
	for name, want := range map[string]api.Attr{
		"dir":  {Ino: aDir, Kind: api.Dir, Perm: 493, Uid: 7, Links: 3, Size: 64},
		"hard": {Ino: aFile, Kind: api.File, Perm: 420, Uid: 7, Links: 2, Size: 65},
		"link": {Ino: aLink, Kind: api.Link, Perm: 511, Uid: 9, Links: 1, Size: 8},
	} {
		if a, e := p.x.Lookup(root, name); a != want || e != api.OK {
			t.Errorf("Lookup(%q): %v, %d, not %v", name, a, e, want)
		}
	}
	for _, c := range []struct {
		call
		want api.Attr
	}{
		{create(sub, "a", 1, 2), api.Attr{Ino: spare, Kind: api.File, Perm: 1, Uid: 2, Links: 1}},
		{link(sub, "b", spare), api.Attr{Ino: spare, Kind: api.File, Perm: 1, Uid: 2, Links: 2}},
		{symlink(sub, "c", "to", 3), api.Attr{Ino: spare + 1, Kind: api.Link, Perm: 511, Uid: 3, Links: 1, Size: 2}},
	} {
		if a := c.do(p.x); a.attr != c.want || a.e != api.OK {
			t.Errorf("%v: %v, not %v", c.call, a, c.want)
		}
	}
	if a, e := p.x.Mkdir(sub, "d", 4, 5); a != (api.Attr{}) || e != api.ENOSPC {
		t.Errorf("no inode is left: %v, %d", a, e)
	}
	p.x.Unlink(sub, "c")
	if a, e := p.x.Mkdir(sub, "d", 4, 5); a != (api.Attr{Ino: spare + 1, Kind: api.Dir, Perm: 4, Uid: 5, Links: 2}) || e != api.OK {
		t.Errorf("Mkdir: %v, %d", a, e)
	}
}

// noInodes are numbers of inodes that aren't in the plan, or aren't taken.
func noInodes() []int {
	return []int{math.MinInt, -65536, -1, 0, spare, inodes, inodes + 1, 127, 128, 129, 65535, 65536 + aDir, 1<<32 + root, math.MaxInt}
}

// ofInodes are calls that are handed that inode, and of which all else is wrong.
func ofInodes(ino int) []call {
	return append(ofDirs(ino), getattr(ino), chmod(ino, 512), chown(ino, -1), resize(ino, -1), readlink(ino), get(ino, -1, 513), put(ino, -1, strings.Repeat("x", 513)), open(ino), shut(ino),
		link(sub, "", ino), link(aDir, "file", ino))
}

// ofDirs are calls that are handed it where a directory is meant.
func ofDirs(ino int) []call {
	return []call{lookup(ino, "nope"), create(ino, "", 512, -1), mkdir(ino, tooLg, -1, 65536), symlink(ino, "/", "", -1), link(ino, "..", 0), link(ino, "x", aDir), unlink(ino, ""), rmdir(ino, "x"), list(ino),
		rename(ino, "nope", 0, ""), rename(ino, "file", aFile, "/"), rename(ino, "x", goneDir, "x"), rename(aDir, "nope", ino, ""), rename(aDir, "sub", ino, "/")}
}

// P14.1: inodes that aren't there: ENOENT, ahead of all else.
func TestInodesThatAreNotThere(t *testing.T) {
	p := sample(t)
	for _, ino := range noInodes() {
		p.refused(t, api.ENOENT, ofInodes(ino)...)
	}
}

// P14.1: where a directory is meant: ENOTDIR, if it is none, Links or not; ENOENT, if it has no Links.
func TestNoDirectories(t *testing.T) {
	p := sample(t)
	for _, ino := range []int{aFile, aLink, gone} {
		p.refused(t, api.ENOTDIR, ofDirs(ino)...)
	}
	p.refused(t, api.ENOENT, ofDirs(goneDir)...)
}

// P14.1: inode by inode, in the order of the arguments.
func TestOrderOfInodes(t *testing.T) {
	p := sample(t)
	for _, c := range []struct {
		ino  int
		want api.Errno
	}{{0, api.ENOENT}, {spare, api.ENOENT}, {aFile, api.ENOTDIR}, {gone, api.ENOTDIR}, {goneDir, api.ENOENT}} {
		for _, then := range []int{-1, aFile, aLink, gone, goneDir, spare, inodes + 1, sub} {
			p.refused(t, c.want, rename(c.ino, "x", then, "y"), link(c.ino, "x", then))
		}
	}
	p.refused(t, api.ENOTDIR, rename(aDir, "nope", aLink, ""), rename(aDir, "sub", aFile, "sub"))
	p.refused(t, api.ENOENT, link(sub, "", spare), link(sub, "/", -1), link(aDir, "file", 0))
}

// wrongNames are names that may not be, by their errors.
func wrongNames() map[string]api.Errno {
	return map[string]api.Errno{
		"": api.ENOENT, ".": api.EINVAL, "..": api.EINVAL, "/": api.EINVAL, "a/": api.EINVAL, "/a": api.EINVAL, "\x00": api.EINVAL, "a\x00b": api.EINVAL,
		"abcdefghijkl/": api.EINVAL, tooLg: api.ENAMETOOLONG, "//////////////": api.ENAMETOOLONG, strings.Repeat("a", 257): api.ENAMETOOLONG,
	}
}

// P14.1: a name that is to be found or removed: ENOENT, whatever it is. One that is to be added: what is wrong with it, or that it is there.
func TestNames(t *testing.T) {
	p := sample(t)
	for name, want := range wrongNames() {
		p.refused(t, api.ENOENT, lookup(aDir, name), unlink(aDir, name), rmdir(aDir, name), rename(aDir, name, sub, "x"), rename(aDir, name, sub, ""), rename(aDir, name, aDir, name))
		p.refused(t, want, create(aDir, name, 0, 0), mkdir(aDir, name, 511, 65535), symlink(aDir, name, "t", 0), link(aDir, name, aFile), rename(aDir, "file", sub, name), rename(root, "empty", aDir, name), rename(aDir, "sub", aDir, name))
	}
	for _, name := range []string{"x", "fil", "file ", "File", "hard", "dir", long} {
		p.refused(t, api.ENOENT, lookup(aDir, name), unlink(aDir, name), rmdir(aDir, name), rename(aDir, name, sub, "x"), rename(aDir, name, aDir, name))
	}
	for _, name := range []string{"file", "sub"} {
		p.refused(t, api.EEXIST, create(aDir, name, 0, 0), mkdir(aDir, name, 511, 65535), symlink(aDir, name, "t", 0), link(aDir, name, aFile))
	}
	for _, name := range []string{"x", long, "...", " ", "\xff\xfe", "é"} {
		p.must(t, create(sub, name, 0, 0), lookup(sub, name), rename(sub, name, sub, "y"), rename(sub, "y", aDir, name), unlink(aDir, name), mkdir(sub, name, 0, 0), rmdir(sub, name))
	}
}

// P14.1: Perm and Uid on either side of their edges.
func TestPermAndUid(t *testing.T) {
	p := sample(t)
	for _, ino := range []int{root, aFile, aLink, sub, gone, goneDir} {
		for _, n := range []int{math.MinInt, -65536, -512, -1, 65536, 65537, 1 << 32, math.MaxInt} {
			p.refused(t, api.EINVAL, chmod(ino, n), chown(ino, n))
		}
		p.refused(t, api.EINVAL, chmod(ino, 512), chmod(ino, 1024), chmod(ino, 65535))
		for _, n := range []int{0, 1, 448, 511} {
			p.must(t, chmod(ino, n), chown(ino, n), chown(ino, 65535-n))
		}
	}
	for _, n := range []int{math.MinInt, -1, 512, 65536, math.MaxInt} {
		p.refused(t, api.EINVAL, create(aDir, "x", n, 0), mkdir(aDir, "x", n, 0), create(aDir, "file", n, 0), mkdir(aDir, "", n, 0))
	}
	for _, n := range []int{math.MinInt, -1, 65536, 1<<32 + 1, math.MaxInt} {
		p.refused(t, api.EINVAL, create(aDir, "x", 0, n), mkdir(aDir, "x", 0, n), symlink(aDir, "x", "t", n), create(aDir, "", 0, n), mkdir(aDir, "file", 0, n), symlink(aDir, "", "t", n), symlink(aDir, "file", "t", n), symlink(aDir, tooLg, "t", n))
	}
	for _, perm := range []int{0, 511} {
		for _, uid := range []int{0, 65535} {
			p.must(t, create(aDir, "x", perm, uid), mkdir(aDir, "y", perm, uid), unlink(aDir, "x"), symlink(aDir, "z", "t", uid), unlink(aDir, "z"), rmdir(aDir, "y"))
		}
	}
}

// P14.1: Symlink's targets, and what Readlink tells of them.
func TestTargets(t *testing.T) {
	p := sample(t)
	for _, n := range []int{1, 2, 59, 60} {
		target := strings.Repeat("/\x00.\xff", 15)[:n]
		ino := p.made(t, symlink(aDir, "x", target, 5))
		if s, e := p.x.Readlink(ino); s != target || e != api.OK {
			t.Errorf("%q, %d, not %q", s, e, target)
		}
		p.must(t, readlink(ino), unlink(aDir, "x"))
	}
	for _, n := range []int{61, 62, 64, 257, 70000} {
		p.refused(t, api.ENAMETOOLONG, symlink(aDir, "x", strings.Repeat("t", n), 0), symlink(aDir, "x", strings.Repeat("t", n), -1), symlink(aDir, "", strings.Repeat("t", n), 0), symlink(aDir, "file", strings.Repeat("t", n), 65536))
	}
	p.refused(t, api.ENOENT, symlink(aDir, "x", "", 0), symlink(aDir, "x", "", -1), symlink(aDir, tooLg, "", 0), symlink(aDir, "file", "", 65536))
	p.refused(t, api.EINVAL, readlink(root), readlink(aFile), readlink(gone), readlink(goneDir))
	p.must(t, readlink(aLink), open(aLink), unlink(root, "link"), readlink(aLink), shut(aLink))
	p.refused(t, api.ENOENT, readlink(aLink))
}

// P14.1: Resize of each Kind, and of each size on either side of the edges.
func TestResize(t *testing.T) {
	p := sample(t)
	for _, n := range []int{math.MinInt, -1, 0, 1, 67841, math.MaxInt} {
		p.refused(t, api.EISDIR, resize(root, n), resize(sub, n), resize(goneDir, n))
		p.refused(t, api.EINVAL, resize(aLink, n))
	}
	for _, ino := range []int{aFile, gone} {
		p.refused(t, api.EINVAL, resize(ino, -1), resize(ino, -65536), resize(ino, math.MinInt))
		p.refused(t, api.EFBIG, resize(ino, 67841), resize(ino, 1<<32), resize(ino, math.MaxInt))
		for _, n := range []int{67840, 0, 1, 63, 64, 65, 61, 62, 0, 2304, 67840, 63, 3} {
			p.must(t, resize(ino, n), get(ino, max(0, n-99), 512), put(ino, min(n, 67838), "ab"), get(ino, 0, 512))
		}
	}
}

// P14.1: Get and Put of each Kind, with offsets and counts on either side of the edges.
func TestGetAndPut(t *testing.T) {
	p := sample(t)
	text := strings.Repeat("0123456789abcdef", 33)
	for _, ino := range []int{root, sub, goneDir} {
		p.refused(t, api.EISDIR, get(ino, 0, 1), get(ino, -1, 513), put(ino, 0, "x"), put(ino, -1, text[:513]), put(ino, 0, ""))
	}
	p.refused(t, api.EINVAL, get(aLink, 0, 1), get(aLink, 0, 0), put(aLink, 0, "x"), put(aLink, 0, ""), put(aLink, 67840, "x"))
	for _, ino := range []int{aFile, gone} {
		for _, off := range []int{0, 1, 63, 64, 65, 255, 256, 2303, 2304, 67328, 67327} {
			p.must(t, put(ino, off, text[:512]), get(ino, off, 512), get(ino, off, 511), get(ino, off+1, 512), get(ino, off, 0), get(ino, off, 1), put(ino, off, ""), put(ino, off+511, text[:1]), resize(ino, off/2))
		}
		for _, n := range []int{513, 528} {
			p.refused(t, api.EINVAL, put(ino, 0, text[:n]), put(ino, 67840, text[:n]), get(ino, 0, n), get(ino, 67841, n))
		}
		p.refused(t, api.EINVAL, get(ino, 0, math.MaxInt), get(ino, 0, -1), get(ino, -1, 0), get(ino, math.MinInt, 1), get(ino, 0, math.MinInt), put(ino, -1, "x"), put(ino, -1, ""), put(ino, math.MinInt, "x"), put(ino, -1, text[:513]))
		p.refused(t, api.EFBIG, put(ino, 67840, "x"), put(ino, 67839, "ab"), put(ino, 67329, text[:512]), put(ino, 1<<32, "x"), put(ino, math.MaxInt, "x"))
		p.must(t, put(ino, 67839, "x"), get(ino, 67839, 512), get(ino, 67840, 512), get(ino, math.MaxInt, 512), put(ino, 67840, ""), put(ino, 0, ""))
	}
}

// P14.1: Link of each Kind, and which error comes first.
func TestLink(t *testing.T) {
	p := sample(t)
	for _, name := range []string{"x", "", tooLg, "file"} {
		p.refused(t, api.EPERM, link(aDir, name, root), link(aDir, name, aDir), link(aDir, name, sub), link(aDir, name, goneDir))
		p.refused(t, api.ENOENT, link(aDir, name, gone))
	}
	p.must(t, link(aDir, "x", aLink), link(sub, "x", aLink), link(sub, "y", aFile), unlink(root, "link"), readlink(aLink), unlink(aDir, "x"), unlink(sub, "x"))
	p.refused(t, api.ENOENT, readlink(aLink), link(sub, "x", aLink))
	p.must(t, unlink(aDir, "file"), unlink(root, "hard"), get(aFile, 0, 512), unlink(sub, "y"))
	p.refused(t, api.ENOENT, get(aFile, 0, 512))
}

// P14.1: Unlink and Rmdir of each Kind.
func TestUnlinkAndRmdir(t *testing.T) {
	p := sample(t)
	p.refused(t, api.EISDIR, unlink(root, "dir"), unlink(root, "empty"), unlink(aDir, "sub"))
	p.refused(t, api.ENOTDIR, rmdir(root, "link"), rmdir(root, "hard"), rmdir(aDir, "file"))
	p.refused(t, api.ENOTEMPTY, rmdir(root, "dir"))
	p.must(t, create(sub, "x", 0, 0))
	p.refused(t, api.ENOTEMPTY, rmdir(aDir, "sub"))
	p.must(t, unlink(sub, "x"), rmdir(aDir, "sub"))
	p.refused(t, api.ENOTEMPTY, rmdir(root, "dir"))
	p.must(t, unlink(aDir, "file"), rmdir(root, "dir"), rmdir(root, "empty"), unlink(root, "hard"), unlink(root, "link"))
	p.refused(t, api.ENOENT, rmdir(root, "dir"), unlink(root, "hard"))
	if l, e := p.x.List(root); len(l) != 0 || e != api.OK || p.x.Spare() != inodes-3 {
		t.Errorf("%v, %d, %d spare", l, e, p.x.Spare())
	}
}

// P14.1: List tells the entries in their slots' order, and is the caller's own.
func TestList(t *testing.T) {
	p := sample(t)
	want := func(ino int, names ...string) {
		t.Helper()
		l, e := p.x.List(ino)
		var got []string
		for k := range l {
			got = append(got, l[k].Name)
			l[k] = slot.Entry{Ino: 1, Name: "spoilt"}
		}
		if !slices.Equal(got, names) || e != api.OK {
			t.Errorf("List(%d): %q, %d, not %q", ino, got, e, names)
		}
		_ = append(l, slot.Entry{Ino: 1, Name: "spoilt"})
		p.like(t, "List")
	}
	want(root, "dir", "link", "empty", "hard")
	want(aDir, "sub", "file")
	want(sub)
	p.must(t, unlink(root, "link"), rename(aDir, "file", root, "f"), create(root, "g", 0, 0), mkdir(aDir, "x", 0, 0))
	want(root, "dir", "f", "empty", "g", "hard")
	want(aDir, "sub", "x")
	p.must(t, rename(root, "g", root, "dir2"), rename(root, "dir2", root, "f"))
	want(root, "dir", "f", "empty", "hard")
}

// P14.1: an inode's numbers are the least that aren't taken, and one that is released is taken again.
func TestLeastInodes(t *testing.T) {
	p := fresh(t, 100, 6)
	for k, want := range []int{2, 3, 4, 5, 6} {
		if ino := p.made(t, create(root, fmt.Sprint(k), 0, 0)); ino != want {
			t.Errorf("inode %d, not %d", ino, want)
		}
	}
	p.must(t, unlink(root, "3"), unlink(root, "1"))
	if a, b := p.made(t, mkdir(root, "x", 0, 0)), p.made(t, symlink(root, "y", "t", 0)); a != 3 || b != 5 {
		t.Errorf("inodes %d and %d", a, b)
	}
}

// P14.1: Format and Mount are layer 11's: their errors, and no tree beside one.
func TestFormatAndMount(t *testing.T) {
	down := noisy(t, 100)
	down.Fuse(0)
	down.Flush()
	for _, n := range []int{-1, 0, 1, 10, 128, 129, math.MaxInt} {
		want := api.EINVAL
		if n > 0 && n < 129 {
			want = api.OK
		}
		if e := tree.Format(noisy(t, 200), n); e != want {
			t.Errorf("Format(%d): %d, not %d", n, e, want)
		}
		if tree.Format(nil, n) != api.EIO || tree.Format(down, n) != api.EIO {
			t.Errorf("Format(%d) of no disk, and of one that is down", n)
		}
	}
	if e := tree.Format(noisy(t, 44), 1); e != api.EINVAL {
		t.Errorf("Format of a disk that is too small: %d", e)
	}
	if x, e := tree.Mount(nil); x != nil || e != api.EIO {
		t.Errorf("Mount of no disk: %v, %d", x, e)
	}
	if x, e := tree.Mount(down); x != nil || e != api.EIO {
		t.Errorf("Mount of a disk that is down: %v, %d", x, e)
	}
	if x, e := tree.Mount(noisy(t, 100)); x != nil || e != api.EINVAL {
		t.Errorf("Mount of noise: %v, %d", x, e)
	}
	p := fresh(t, 100, 10)
	if v := p.x.Volume(); v == nil || v.Plan().Pages != 100 || v.Plan().Inodes != 10 || v.Free() != p.x.Free() {
		t.Errorf("Volume: %v", v)
	}
	for f := range 2 {
		p.d.Fuse(f)
		if x, e := tree.Mount(p.d); x != nil || e != api.EIO {
			t.Errorf("Mount, fuse %d: %v, %d", f, x, e)
		}
		p.d.Crash()
	}
}
