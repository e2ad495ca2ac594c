package tree_test

import (
	"fmt"
	"testing"

	"narthex/api"
)

// P14.1: onto nothing: within one directory, and from one to another, of each Kind. The directories' Links go with a Dir.
func TestRenameOntoNothing(t *testing.T) {
	p := sample(t)
	links := func(ino, want int) {
		t.Helper()
		if a, _ := p.x.Getattr(ino); a.Links != want {
			t.Errorf("inode %d has %d Links, not %d", ino, a.Links, want)
		}
	}
	p.must(t, rename(root, "link", root, "x"), rename(root, "x", aDir, "y"), rename(aDir, "y", sub, "z"), rename(sub, "z", root, "link"))
	p.must(t, rename(aDir, "file", aDir, long), rename(aDir, long, sub, "file"), rename(sub, "file", empty, "file"))
	p.must(t, rename(root, "dir", root, "dir2"))
	links(root, 4)
	p.must(t, rename(root, "dir2", empty, "dir2"))
	links(root, 3)
	links(empty, 3)
	p.must(t, rename(aDir, "sub", root, "sub"))
	links(aDir, 2)
	links(root, 4)
	p.must(t, rename(empty, "dir2", sub, "dir2"), rename(root, "empty", aDir, "empty"), lookup(sub, "dir2"), lookup(aDir, "empty"))
	links(root, 3)
	links(sub, 3)
	links(aDir, 3)
	links(empty, 2)
}

// P14.1: onto something else: a File, a Link, an empty Dir, and one with entries.
func TestRenameOntoOthers(t *testing.T) {
	for _, c := range []struct {
		name, other string // of the root's
		want        api.Errno
	}{
		{"hard", "link", api.OK}, {"link", "hard", api.OK}, {"link", "one", api.OK}, {"one", "link", api.OK}, {"one", "hard", api.OK},
		{"hard", "empty", api.EISDIR}, {"link", "empty", api.EISDIR}, {"hard", "dir", api.EISDIR}, {"link", "dir", api.EISDIR},
		{"empty", "hard", api.ENOTDIR}, {"dir", "link", api.ENOTDIR}, {"empty", "dir", api.ENOTEMPTY}, {"dir", "empty", api.OK},
		{"nope", "dir", api.ENOENT}, {"nope", "nope", api.ENOENT}, {"", "", api.ENOENT},
	} {
		for _, between := range []bool{false, true} {
			p := sample(t)
			from := root
			p.must(t, create(root, "one", 0, 0), put(spare, 0, "one"))
			if between { // what is renamed stands in a directory of its own
				from = p.made(t, mkdir(root, "from", 0, 0))
				if p.m.at(root, c.name) != 0 {
					p.must(t, rename(root, c.name, from, c.name))
				}
			}
			ino, old := p.m.at(from, c.name), p.m.at(root, c.other)
			last := old != 0 && c.other != "hard"
			if a := p.act(t, rename(from, c.name, root, c.other)); a.e != c.want {
				t.Errorf("%v: %d", c, a.e)
			}
			if c.want != api.OK {
				continue
			}
			if p.m.at(root, c.other) != ino || p.m.at(from, c.name) != 0 {
				t.Errorf("%v: %d leads there, not %d", c, p.m.at(root, c.other), ino)
			}
			if p.m.nodes[old] != nil == last {
				t.Errorf("%v: inode %d is there: %v", c, old, p.m.nodes[old])
			}
		}
	}
}

// P14.1: onto a Dir with entries, by which the renamed one is come to.
func TestRenameOntoAbove(t *testing.T) {
	p := sample(t)
	p.must(t, create(sub, "f", 0, 0), mkdir(sub, "d", 0, 0))
	p.refused(t, api.EISDIR, rename(aDir, "file", root, "dir"), rename(sub, "f", root, "dir"), rename(sub, "f", aDir, "sub"))
	p.refused(t, api.ENOTEMPTY, rename(aDir, "sub", root, "dir"), rename(sub, "d", root, "dir"), rename(sub, "d", aDir, "sub"))
}

// P14.1: onto the same inode nothing is done, and both names are there still.
func TestRenameOntoTheSame(t *testing.T) {
	p := sample(t)
	was := p.m.told()
	p.must(t, rename(aDir, "file", root, "hard"), rename(root, "hard", aDir, "file"), rename(root, "hard", root, "hard"), rename(aDir, "file", aDir, "file"))
	p.must(t, rename(root, "dir", root, "dir"), rename(root, "empty", root, "empty"), rename(aDir, "sub", aDir, "sub"), rename(root, "link", root, "link"))
	if now := toldBy(t, p.x); now != was {
		t.Errorf("%s, not %s", now, was)
	}
	p.must(t, link(root, "hard2", aFile), rename(root, "hard", root, "hard2"), link(aDir, "file2", aFile), rename(aDir, "file2", root, "hard2"))
	p.refused(t, api.EEXIST, link(root, "hard", aFile), link(root, "hard2", aFile), link(aDir, "file2", aFile))
}

// P14.1: a Dir into itself, and into what lies in it, however deep: EINVAL, ahead of all that other is or isn't.
func TestRenameIntoItself(t *testing.T) {
	const deep = 40
	p := fresh(t, 300, 128)
	dirs := []int{root}
	for k := range deep {
		dirs = append(dirs, p.made(t, mkdir(dirs[k], "d", 0, 0)))
		p.must(t, create(dirs[k+1], "f", 0, 0))
		if k%3 == 0 { // beside the way, so that there is more than one
			p.must(t, rename(dirs[k+1], "f", dirs[k], "f2"))
		}
	}
	for above := 1; above <= deep; above += 3 {
		for below := above; below <= deep; below++ {
			for _, other := range []string{"d", "f", "f2", "x", "", "..", tooLg} {
				p.refused(t, api.EINVAL, rename(dirs[above-1], "d", dirs[below], other))
			}
		}
		p.refused(t, api.ENOENT, rename(dirs[above-1], "x", dirs[deep], "d"))
	}
	p.must(t, rename(dirs[3], "f", dirs[deep], "g"), rename(dirs[deep-1], "d", dirs[deep-1], "e"), rename(dirs[deep-1], "e", root, "e"))
	p.must(t, rename(dirs[0], "d", dirs[deep], "d"))
	p.refused(t, api.EINVAL, rename(root, "e", dirs[4], "x"), rename(dirs[deep], "d", dirs[deep-1], "x"))
}

// P14.1: a wide directory, with Dirs in it of which only one has what is asked for.
func TestRenameIntoOneOfMany(t *testing.T) {
	p := fresh(t, 200, 40)
	top := p.made(t, mkdir(root, "top", 0, 0))
	beside := p.made(t, mkdir(root, "beside", 0, 0))
	var low []int
	for k := range 12 {
		d := p.made(t, mkdir(top, fmt.Sprint(k), 0, 0))
		low = append(low, d, p.made(t, mkdir(d, "low", 0, 0)))
	}
	for _, d := range low {
		p.refused(t, api.EINVAL, rename(root, "top", d, "x"))
	}
	p.must(t, rename(top, "11", beside, "11"), rename(root, "top", low[23], "x"), rename(low[23], "x", root, "top"))
}

// P14.1: the entry of other's slot is taken over; onto nothing a new one is added, ahead of name's being removed.
func TestRenamesSlots(t *testing.T) {
	p := fresh(t, 100, 10)
	for _, name := range []string{"a", "b", "c", "d"} {
		p.must(t, create(root, name, 0, 0))
	}
	names := func(want string) {
		t.Helper()
		l, _ := p.x.List(root)
		got := ""
		for _, e := range l {
			got += e.Name
		}
		if got != want {
			t.Errorf("%q, not %q", got, want)
		}
	}
	size := func(want int) {
		t.Helper()
		if a, _ := p.x.Getattr(root); a.Size != want {
			t.Errorf("Size %d, not %d", a.Size, want)
		}
	}
	p.must(t, rename(root, "d", root, "b"))
	names("abc")
	size(64)
	p.must(t, rename(root, "c", root, "e"))
	names("abe")
	p.must(t, create(root, "f", 0, 0))
	names("abfe")
	size(64)
	p.must(t, rename(root, "a", root, "g"))
	names("bfeg")
	size(128)
	p.must(t, rename(root, "f", root, "h"))
	names("hbeg")
	size(128)
}

// P14.1: what loses its last entry by a Rename is released, unless it is open.
func TestRenameOntoOpen(t *testing.T) {
	for _, opens := range []int{0, 1, 3} {
		p := sample(t)
		p.must(t, create(root, "one", 0, 0), put(spare, 0, "one"), mkdir(aDir, "two", 0, 0), resize(gone, 0))
		for range opens {
			p.must(t, open(spare), open(empty), open(aLink))
		}
		p.must(t, rename(root, "hard", root, "one"), rename(aDir, "two", root, "empty"), rename(aDir, "file", root, "link"))
		for k := range opens {
			p.must(t, get(spare, 0, 9), getattr(empty), readlink(aLink))
			if p.x.Opens(spare) != opens-k {
				t.Errorf("%d open", p.x.Opens(spare))
			}
			p.must(t, shut(spare), shut(empty), shut(aLink))
		}
		p.refused(t, api.ENOENT, get(spare, 0, 9), getattr(empty), readlink(aLink), shut(spare))
	}
}
