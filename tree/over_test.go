package tree_test

import (
	"testing"

	"narthex/api"
	"narthex/tree"
)

// eachCall is each call, with arguments that are right in a sample.
func eachCall() []call {
	return []call{lookup(aDir, "file"), getattr(root), chmod(aFile, 1), chown(aFile, 1), resize(aFile, 1), create(root, "x", 0, 0), mkdir(root, "y", 0, 0), symlink(root, "z", "t", 0), readlink(aLink),
		link(root, "u", aFile), unlink(aDir, "file"), rmdir(root, "empty"), rename(aDir, "sub", root, "v"), get(aFile, 0, 9), put(aFile, 0, "x"), list(root), open(aFile), shut(gone), sync()}
}

// wantOver asks for EIO of each call, right or wrong, and that nothing else is told.
func wantOver(t *testing.T, what string, x *tree.Tree) {
	t.Helper()
	l := append(eachCall(), ofInodes(-1)...)
	for _, c := range append(append(l, ofInodes(aFile)...), ofInodes(goneDir)...) {
		if a := c.do(x); a != failed(api.EIO) {
			t.Errorf("%s: %v: %v", what, c, a)
		}
	}
	for _, ino := range []int{-1, 0, root, aFile, gone, goneDir} {
		if n := x.Opens(ino); n != 0 {
			t.Errorf("%s: Opens(%d): %d", what, ino, n)
		}
	}
	if !x.Over() || x.Free() != 0 || x.Spare() != 0 {
		t.Errorf("%s: Over %v, %d free, %d spare", what, x.Over(), x.Free(), x.Spare())
	}
}

// P14.1: a nil tree, and one that was never mounted.
func TestNilTree(t *testing.T) {
	wantOver(t, "nil", nil)
	wantOver(t, "zero", &tree.Tree{})
	var x *tree.Tree
	if x.Volume() != nil || (&tree.Tree{}).Volume() != nil {
		t.Error("a volume")
	}
}

// P14.1: a tree whose Sync failed is over; behind a crash it is mounted again.
func TestOver(t *testing.T) {
	p := sample(t)
	p.must(t, sync(), chmod(root, 0))
	v := p.x.Volume()
	p.d.Fuse(3)
	if e := p.x.Sync(); e != api.EIO {
		t.Fatalf("Sync: %d", e)
	}
	wantOver(t, "over", p.x)
	if p.x.Volume() != v || !v.Over() {
		t.Error("another volume")
	}
	p.d.Crash()
	wantOver(t, "behind a crash", p.x)
	p.x, p.m = mounted(t, p.d), p.m.mounted()
	p.must(t, chmod(root, 0))
}

// P14.1: an act that makes the tree over, since what was kept had to last first, tells EIO and nothing else.
func TestActThatMakesItOver(t *testing.T) {
	for _, c := range eachCall() {
		if c.what == "Sync" {
			continue
		}
		over := 0
		for pages := range 38 {
			p := sample(t)
			p.must(t, sync())
			for k := range pages { // each one more that waits for the next Sync, up to as many as the journal has room for
				p.m, _ = p.m.on(put(gone, 64*k, "x"))
				if e := p.x.Put(gone, 64*k, "x"); e != api.OK {
					t.Fatal(e)
				}
			}
			p.d.Fuse(0)
			a := c.do(p.x)
			if p.x.Over() {
				over++
				if a != failed(api.EIO) {
					t.Fatalf("%v: %+v", c, a)
				}
				wantOver(t, c.String(), p.x)
				break
			}
			next, want := p.m.on(c)
			if a != want {
				t.Fatalf("%v: %+v, not %+v", c, a, want)
			}
			p.m = next
			p.d.Fuse(-1)
			p.like(t, c.String())
		}
		if _, reads := map[string]int{"Lookup": 0, "Getattr": 0, "Readlink": 0, "Get": 0, "List": 0, "Open": 0, "Close": 0}[c.what]; reads == (over > 0) {
			t.Errorf("%v: %d times over", c, over)
		}
	}
}

// P14.1: a tree isn't over by a disk that is down without its doing: what isn't read from what was kept is EIO, and the disk's.
func TestDiskThatIsDown(t *testing.T) {
	p := sample(t)
	p.must(t, sync())
	p.d.Fuse(0)
	p.d.Flush()
	for _, c := range eachCall() {
		if c.what == "Sync" {
			continue
		}
		if a := c.do(p.x); a != failed(api.EIO) {
			t.Errorf("%v: %v", c, a)
		}
	}
	if p.x.Over() || p.x.Opens(gone) != 2 || p.x.Opens(aFile) != 0 {
		t.Errorf("Over %v, %d and %d open", p.x.Over(), p.x.Opens(gone), p.x.Opens(aFile))
	}
	p.d.Crash()
	p.like(t, "up again")
}
