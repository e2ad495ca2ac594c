package tree_test

import (
	"math"
	"strings"
	"testing"

	"narthex/api"
)

// wantOpens asks how often inodes are open.
func wantOpens(t *testing.T, p *pair, want map[int]int) {
	t.Helper()
	for ino, n := range want {
		if got := p.x.Opens(ino); got != n {
			t.Errorf("Opens(%d): %d, not %d", ino, got, n)
		}
	}
}

// P14.1: Open and Close of each Kind, some times, and of what isn't open.
func TestOpens(t *testing.T) {
	p := sample(t)
	wantOpens(t, p, map[int]int{root: 0, aFile: 0, gone: 2, goneDir: 1, spare: 0, 0: 0, -1: 0, inodes + 1: 0, math.MaxInt: 0, math.MinInt: 0})
	for _, ino := range []int{root, aDir, sub, aFile, aLink} {
		p.refused(t, api.EBADF, shut(ino))
		for n := 1; n <= 3; n++ {
			p.must(t, open(ino))
			wantOpens(t, p, map[int]int{ino: n, empty: 0})
		}
		for n := 2; n >= 0; n-- {
			p.must(t, shut(ino))
			wantOpens(t, p, map[int]int{ino: n, empty: 0})
		}
		p.refused(t, api.EBADF, shut(ino), shut(ino))
		p.must(t, open(ino))
	}
	for _, ino := range noInodes() {
		p.refused(t, api.ENOENT, open(ino), shut(ino))
		wantOpens(t, p, map[int]int{ino: 0})
	}
	wantOpens(t, p, map[int]int{root: 1, aFile: 1, aLink: 1, gone: 2, goneDir: 1})
}

// P14.1: a File that is open and has no Links is read, written and changed still, till it is closed; its pages are free then.
func TestFileThatIsGone(t *testing.T) {
	p := fresh(t, 120, 6)
	free := p.x.Free()
	f := p.made(t, create(root, "f", 420, 0))
	p.must(t, put(f, 0, "hello"), put(f, 64*40, "far"), open(f), open(f), link(root, "g", f), unlink(root, "f"))
	p.must(t, getattr(f), unlink(root, "g"))
	if s, e := p.x.Get(f, 0, 5); s != "hello" || e != api.OK {
		t.Errorf("%q, %d", s, e)
	}
	p.must(t, put(f, 100, strings.Repeat("x", 512)), get(f, 0, 512), resize(f, 300), chmod(f, 0), chown(f, 9), open(f), getattr(f), sync())
	p.refused(t, api.ENOENT, link(root, "h", f), lookup(root, "f"))
	if p.x.Spare() != 4 {
		t.Errorf("%d spare", p.x.Spare())
	}
	p.must(t, shut(f), shut(f), put(f, 0, "still"), get(f, 0, 9), shut(f))
	p.refused(t, api.ENOENT, getattr(f), get(f, 0, 9), put(f, 0, "x"), shut(f), open(f))
	if p.x.Spare() != 5 || p.x.Free() != free-1 {
		t.Errorf("%d spare, %d free", p.x.Spare(), p.x.Free())
	}
	if again := p.made(t, create(root, "new", 0, 0)); again != f || p.x.Opens(f) != 0 {
		t.Errorf("inode %d, %d open", again, p.x.Opens(f))
	}
	p.refused(t, api.EBADF, shut(f))
	p.must(t, unlink(root, "new"))
	p.refused(t, api.ENOENT, getattr(f))
}

// P14.1: closed ahead of the last Unlink, a File is released by that.
func TestClosedAheadOfUnlink(t *testing.T) {
	p := sample(t)
	p.must(t, open(aFile), unlink(root, "hard"), shut(aFile), get(aFile, 0, 9), unlink(aDir, "file"))
	p.refused(t, api.ENOENT, getattr(aFile), shut(aFile))
}

// P14.1: a Dir that is open and was removed is told of still, and nothing can be put into it.
func TestDirThatIsGone(t *testing.T) {
	p := sample(t)
	p.must(t, open(sub), create(sub, "x", 0, 0), unlink(sub, "x"), rmdir(aDir, "sub"))
	if a, e := p.x.Getattr(sub); a != (api.Attr{Ino: sub, Kind: api.Dir, Perm: 448, Uid: 8, Size: 64}) || e != api.OK {
		t.Errorf("%v, %d", a, e)
	}
	p.must(t, chmod(sub, 7), chown(sub, 7), open(sub), shut(sub))
	p.refused(t, api.ENOENT, ofDirs(sub)...)
	p.refused(t, api.EPERM, link(root, "x", sub))
	p.refused(t, api.EISDIR, get(sub, 0, 1), put(sub, 0, ""), resize(sub, 0))
	p.must(t, shut(sub))
	p.refused(t, api.ENOENT, getattr(sub), shut(sub), list(sub))
	p.must(t, shut(goneDir))
	p.refused(t, api.ENOENT, getattr(goneDir), shut(goneDir), list(goneDir))
}

// P14.1: the root may be open, and stays.
func TestRootThatIsOpen(t *testing.T) {
	p := fresh(t, 100, 4)
	p.must(t, open(root), open(root), shut(root), shut(root), getattr(root), list(root))
	p.refused(t, api.EBADF, shut(root))
}

// P14.1: Mount releases what has no Links, whatever was open; what has some stays, and isn't open.
func TestMountReleases(t *testing.T) {
	p := sample(t)
	p.must(t, open(aFile), open(aLink), unlink(root, "link"), put(gone, 64*36, "far"))
	p.again(t)
	wantOpens(t, p, map[int]int{aFile: 0, aLink: 0, gone: 0, goneDir: 0})
	p.refused(t, api.ENOENT, getattr(aLink), getattr(gone), getattr(goneDir), shut(gone))
	p.refused(t, api.EBADF, shut(aFile))
	if p.x.Spare() != inodes-5 {
		t.Errorf("%d spare", p.x.Spare())
	}
	// that was synced: another Mount has nothing to do but the journal's Open
	p.d.Crash()
	p.d.Fuse(2)
	p.x = mounted(t, p.d)
	p.like(t, "mounted twice")
}

// P14.1, P14.3: without a Sync all since the last one is gone, behind a crash; Opens don't last either way.
func TestCrashBetweenActs(t *testing.T) {
	for _, choices := range [][]byte{nil, every(64), every(9)} {
		p := sample(t)
		p.must(t, sync())
		was := p.m.mounted()
		p.must(t, shut(gone), shut(gone), shut(goneDir), rename(root, "dir", empty, "dir"), put(aFile, 0, "new"), open(aFile), unlink(root, "link"))
		p.d.Crash(choices...)
		p.x, p.m = mounted(t, p.d), was
		p.like(t, "behind a crash")
	}
}
