package tree_test

import (
	"encoding/binary"
	"fmt"
	"strings"
	"testing"

	"narthex/api"
	"narthex/disk"
	"narthex/slot"
	"narthex/tree"
)

// P14.1: a File has up to 40 Links; one more is EMLINK, ahead of what is wrong with the name. Rename needs none.
func TestMaxLinksOfAFile(t *testing.T) {
	p := sample(t)
	for _, ino := range []int{aFile, aLink} {
		for k := p.m.links()[ino]; k < 40; k++ {
			if a := p.act(t, link(sub, fmt.Sprint("n", ino, k), ino)); a.e != api.OK || a.attr.Links != k+1 {
				t.Fatalf("Link %d: %v", k, a)
			}
		}
		p.refused(t, api.EMLINK, link(sub, "x", ino), link(sub, "", ino), link(sub, tooLg, ino), link(aDir, "sub", ino))
		p.must(t, rename(sub, fmt.Sprint("n", ino, 30), root, "m"), rename(root, "m", root, "n"), unlink(root, "n"), link(sub, "x", ino))
		p.refused(t, api.EMLINK, link(sub, "y", ino))
		p.must(t, unlink(sub, "x"))
	}
	p.refused(t, api.ENOTDIR, link(aFile, "x", aFile))
	p.refused(t, api.ENOENT, link(0, "x", aFile))
}

// crowded is a tree whose directory full has 40 Links: 38 Dirs, the first one with an entry, and the second, d1, empty; and two Files, so that all its slots are taken. Beside it is a Dir, one, with the Dir in.
func crowded(t *testing.T, pages int) (p *pair, full, one int) {
	t.Helper()
	p = fresh(t, pages, 60)
	full = p.made(t, mkdir(root, "full", 0, 0))
	one = p.made(t, mkdir(root, "one", 0, 0))
	for k := range 38 {
		p.must(t, mkdir(full, fmt.Sprint("d", k), 0, 0))
	}
	p.must(t, create(full, "f1", 0, 0), create(full, "f2", 0, 0), mkdir(one, "in", 0, 0), create(one, "file", 0, 0))
	p.must(t, create(p.m.at(full, "d0"), "x", 0, 0))
	if p.m.links()[full] != 40 || p.m.attr(full).Size != 640 {
		t.Fatalf("%v", p.m.attr(full))
	}
	return p, full, one
}

// P14.1: a Dir has up to 40 Links; Mkdir of one more is EMLINK: behind EINVAL, ahead of the name's errors.
func TestMaxLinksOfADir(t *testing.T) {
	p, full, one := crowded(t, 200)
	p.refused(t, api.EMLINK, mkdir(full, "x", 511, 65535), mkdir(full, "", 0, 0), mkdir(full, tooLg, 0, 0), mkdir(full, "d1", 0, 0), mkdir(full, "..", 0, 0))
	p.refused(t, api.EINVAL, mkdir(full, "x", 512, 0), mkdir(full, "", -1, 0), mkdir(full, "d1", 0, 65536), mkdir(full, "x", 0, -1))
	p.must(t, create(full, "x", 0, 0), symlink(full, "y", "t", 0), link(full, "z", p.m.at(one, "file")))
	p.must(t, rmdir(full, "d5"), mkdir(full, "again", 0, 0))
	p.refused(t, api.EMLINK, mkdir(full, "d5", 0, 0))
	p.must(t, rename(full, "again", one, "again"), mkdir(full, "d5", 0, 0))
	p.refused(t, api.EMLINK, mkdir(full, "d6", 0, 0))
}

// P14.1: Rename of a Dir into a directory with 40 Links is EMLINK, also if that would lose one by it: ahead of what other leads to, behind all else.
func TestMaxLinksOfRename(t *testing.T) {
	p, full, one := crowded(t, 200)
	for _, other := range []string{"x", "d0", "d1", "f1"} {
		p.refused(t, api.EMLINK, rename(one, "in", full, other), rename(root, "one", full, other))
	}
	for name, want := range wrongNames() {
		p.refused(t, want, rename(one, "in", full, name), rename(root, "one", full, name))
	}
	p.refused(t, api.ENOENT, rename(one, "nope", full, "d1"))
	p.refused(t, api.EINVAL, rename(root, "full", full, "d1"), rename(root, "full", full, "x"))
	p.must(t, rename(full, "d2", full, "e2"), rename(full, "e2", full, "d1"))
	p.refused(t, api.ENOTEMPTY, rename(full, "d1", full, "d0"))
	p.refused(t, api.ENOTDIR, rename(full, "d1", full, "f1"))
	p.must(t, mkdir(full, "d2", 0, 0), rename(one, "file", full, "x"), rename(full, "x", full, "f1"))
	p.refused(t, api.EISDIR, rename(full, "f1", full, "d1"))
	p.must(t, rename(full, "d3", one, "d3"), rename(one, "in", full, "d1"), rename(one, "d3", full, "d3"))
	p.refused(t, api.EMLINK, rename(root, "one", full, "d1"))
}

// P14.1: where to would have to grow and can't: ENOSPC, behind what is wrong with the name, ahead of EMLINK.
func TestRenameWithoutRoom(t *testing.T) {
	p, full, one := crowded(t, 110)
	big := p.made(t, create(root, "big", 0, 0))
	for k := 0; p.m.free() > 0; k++ {
		p.must(t, put(big, 64*k, "x"))
	}
	p.refused(t, api.ENOSPC, rename(one, "in", full, "x"), rename(one, "file", full, "x"), rename(full, "d1", full, "x"), rename(full, "f1", full, "x"), rename(root, "one", full, long))
	p.refused(t, api.ENOSPC, create(full, "x", 0, 0), link(full, "x", big), symlink(full, "x", "t", 0), put(big, 67000, "x"), symlink(one, "x", "t", 0))
	p.refused(t, api.EMLINK, rename(one, "in", full, "d1"), mkdir(full, "x", 0, 0))
	p.refused(t, api.EINVAL, rename(root, "full", full, "x"), rename(one, "in", full, ".."))
	p.refused(t, api.ENOENT, rename(one, "nope", full, "x"), rename(one, "in", full, ""))
	p.refused(t, api.EEXIST, create(full, "f1", 0, 0))
	p.refused(t, api.ENAMETOOLONG, rename(one, "in", full, tooLg), link(full, tooLg, big))
	// where no page is needed there is room
	p.must(t, rename(one, "file", full, "f1"), rename(full, "f2", one, "f2"), rename(one, "in", one, "in2"))
	p.refused(t, api.EMLINK, rename(one, "in2", full, "x"))
	p.must(t, rename(one, "f2", full, "x"), create(one, "y", 0, 0))
	p.refused(t, api.ENOSPC, rename(one, "y", full, "y"))
	p.must(t, resize(big, 67840), resize(big, 0), rename(one, "y", full, "y"))
}

// P14.1: no inode is left: ENOSPC, behind what is wrong with the name. What fails changes nothing.
func TestNoInode(t *testing.T) {
	p := fresh(t, 100, 3)
	d := p.made(t, mkdir(root, "d", 0, 0))
	f := p.made(t, create(root, "f", 0, 0))
	for _, dir := range []int{root, d} {
		p.refused(t, api.ENOSPC, create(dir, "x", 0, 0), mkdir(dir, "x", 0, 0), symlink(dir, "x", "t", 0))
		for name, want := range wrongNames() {
			p.refused(t, want, create(dir, name, 0, 0), mkdir(dir, name, 0, 0), symlink(dir, name, "t", 0))
		}
		p.refused(t, api.EINVAL, create(dir, "x", -1, 0), mkdir(dir, "x", 0, -1), symlink(dir, "x", "t", -1))
	}
	p.refused(t, api.EEXIST, create(root, "f", 0, 0), mkdir(root, "f", 0, 0), symlink(root, "d", "t", 0))
	p.must(t, open(f), unlink(root, "f"))
	p.refused(t, api.ENOSPC, create(d, "x", 0, 0))
	p.must(t, shut(f), create(d, "x", 0, 0))
}

// P14.1: no page is left: for a directory's, for a target, and for bytes, with each count of free pages. What fails changes nothing.
func TestNoPage(t *testing.T) {
	for room := 1; room <= 8; room++ {
		p := fresh(t, 43+5+room, 10)
		p.must(t, create(root, "a", 0, 0))
		p.must(t, put(2, 0, strings.Repeat("x", min(room-1, 4)*64)))
		if room > 6 {
			p.must(t, put(2, 256, strings.Repeat("x", (room-6)*64)))
		}
		if free := p.m.free(); free > 1 || room < 6 && free > 0 {
			t.Fatalf("%d are free", free)
		}
		for p.m.free() > 0 {
			p.must(t, symlink(root, "z", "t", 0))
		}
		p.refused(t, api.ENOSPC, symlink(root, "s", "t", 0), put(2, 64*36, "x"), put(2, 64*1059, "x"))
		for k := 0; p.m.attr(root).Size == 64; k++ {
			if a := p.act(t, create(root, fmt.Sprint(k), 0, 0)); a.e != api.OK {
				break
			}
		}
		p.refused(t, api.ENOSPC, create(root, "x", 0, 0), mkdir(root, "x", 0, 0), link(root, "x", 2), rename(root, "a", root, "x"), symlink(root, "x", "t", 0))
		p.refused(t, api.EEXIST, create(root, "a", 0, 0))
		p.must(t, unlink(root, "0"), rename(root, "a", root, "x"), put(2, 0, ""), resize(2, 0))
	}
}

// endless is a tree on a disk that was spoilt: the directory 2 has all the pages that a file may have, all of them one page, with four names. No disk had room for so many.
func endless(t *testing.T, links int) *tree.Tree {
	t.Helper()
	p := fresh(t, 120, 10)
	p.must(t, mkdir(root, "endless", 0, 0), create(2, "f", 0, 0), link(2, "g", 3), link(2, "h", 3), link(2, "i", 3))
	p.must(t, mkdir(root, "d", 0, 0), create(root, "file", 0, 0))
	p.must(t, sync())
	d := p.d
	const numbers, above = 110, 111
	x, _ := d.Read(43)
	half := x[32:]
	at := half[12:14]
	var ind, dind api.Page
	for k := range 32 {
		copy(ind[2*k:], at)
		binary.BigEndian.PutUint16(dind[2*k:], numbers)
	}
	binary.BigEndian.PutUint16(half[6:], uint16(links))
	binary.BigEndian.PutUint32(half[8:], api.MaxFile)
	for k := range 4 {
		copy(half[12+2*k:], at)
	}
	binary.BigEndian.PutUint16(half[20:], numbers)
	binary.BigEndian.PutUint16(half[22:], above)
	lay(d, 43, x)
	lay(d, numbers, ind)
	lay(d, above, dind)
	return mounted(t, d)
}

func lay(d *disk.Disk, at int, p api.Page) {
	d.Write(at, p)
	d.Flush()
}

// P14.1: a directory that can't grow, since it is as long as a file may be: EFBIG, behind what is wrong with the name, ahead of EMLINK of Rename.
func TestEndlessDirectory(t *testing.T) {
	for _, links := range []int{2, 40} {
		x := endless(t, links)
		was := fmt.Sprint(x.Getattr(2))
		wants := func(want api.Errno, l ...call) {
			t.Helper()
			for _, c := range l {
				if a := c.do(x); a != failed(want) {
					t.Errorf("%v: %v, not %d", c, a.e, want)
				}
			}
			if now := fmt.Sprint(x.Getattr(2)); now != was || x.Spare() != 5 {
				t.Fatalf("%v has changed to %v, %d spare", was, now, x.Spare())
			}
		}
		wants(api.EFBIG, create(2, "x", 0, 0), symlink(2, "x", "t", 0), link(2, "x", 3), rename(root, "d", 2, "x"), rename(root, "file", 2, "x"), rename(2, "f", 2, "x"))
		wants(api.EEXIST, create(2, "f", 0, 0), symlink(2, "g", "t", 0), link(2, "h", 3))
		wants(api.ENAMETOOLONG, create(2, tooLg, 0, 0), rename(root, "d", 2, tooLg))
		wants(api.EISDIR, rename(root, "file", root, "d"))
		if links == 40 {
			wants(api.EMLINK, mkdir(2, "x", 0, 0), rename(root, "d", 2, "f"))
		} else {
			wants(api.EFBIG, mkdir(2, "x", 0, 0))
			wants(api.ENOTDIR, rename(root, "d", 2, "f"))
		}
		if a := link(root, "y", 3).do(x); a.e != api.OK {
			t.Errorf("%v", a)
		}
	}
}

// P14.1: a spoilt disk's tree: no call panics, each ends.
func TestSpoiltTrees(t *testing.T) {
	c := chance(1)
	for range 150 {
		p := sample(t)
		p.must(t, sync())
		for range 1 + c.below(6) {
			at := c.of(43, 44, 45, 46, 47, 48, 49, 50, 51, 52)
			x, _ := p.d.Read(at)
			switch c.below(3) {
			case 0:
				x[c.below(64)] = byte(c.of(0, 1, 2, 3, 4, 9, 255))
			case 1:
				x = slot.Put(x, c.below(4), slot.Entry{Ino: 1 + c.below(inodes+2), Name: []string{"dir", "sub", "file", "x"}[c.below(4)]})
			default:
				x[c.below(2)*32+7] = byte(c.of(0, 1, 2, 40, 41))
			}
			lay(p.d, at, x)
		}
		x, e := tree.Mount(p.d)
		if e != api.OK {
			continue
		}
		for range 60 {
			someCall(&c, p.m, 10).do(x)
		}
	}
}

// loop is a tree on a disk that was spoilt: a Dir that lies in itself.
func loop(t *testing.T) *tree.Tree {
	t.Helper()
	p := sample(t)
	p.must(t, sync())
	if p.m.at(aDir, "sub") != sub {
		t.Fatal("no sub")
	}
	x, _ := p.d.Read(43 + (aDir-1)/2)
	at := int(binary.BigEndian.Uint16(x[(aDir-1)%2*32+12:]))
	page, _ := p.d.Read(at)
	lay(p.d, at, slot.Put(page, 0, slot.Entry{Ino: aDir, Name: "sub"}))
	return mounted(t, p.d)
}

// P14.1: on a spoilt disk, a Dir that lies in itself is gone through once; a name that leads to no inode is EIO.
func TestLoop(t *testing.T) {
	x := loop(t)
	if e := x.Rename(root, "dir", empty, "x"); e != api.OK {
		t.Errorf("Rename: %d", e)
	}
	if e := x.Rename(empty, "x", aDir, "y"); e != api.EINVAL {
		t.Errorf("Rename into itself: %d", e)
	}
	p := sample(t)
	p.must(t, sync())
	v := p.x.Volume()
	for _, ino := range []byte{spare, inodes + 1, 255} {
		d, _ := v.Inode(aDir)
		page, _ := v.Page(d.Direct[0])
		page[1] = ino
		lay(p.d, d.Direct[0], page)
		y := mounted(t, p.d)
		for _, c := range []call{lookup(aDir, "sub"), unlink(aDir, "sub"), rmdir(aDir, "sub"), rename(aDir, "sub", root, "x"), rename(root, "empty", aDir, "sub"), rename(root, "dir", empty, "x")} {
			if a := c.do(y); a != failed(api.EIO) {
				t.Errorf("%v to inode %d: %v", c, ino, a)
			}
		}
		if l, e := y.List(aDir); len(l) != 2 || e != api.OK {
			t.Errorf("%v, %d", l, e)
		}
	}
}
