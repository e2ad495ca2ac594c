package tree_test

import (
	"fmt"
	"strings"
	"testing"

	"narthex/api"
	"narthex/disk"
	"narthex/inode"
	"narthex/slot"
	"narthex/tree"
)

var zeros = strings.Repeat("\x00", 64)

// call is a call of a tree.
type call struct {
	what  string
	ino   int
	name  string
	to    int
	other string
	n, m  int
}

func (c call) String() string {
	return fmt.Sprintf("%s(%d, %.20q, %d, %.70q, %d, %d)", c.what, c.ino, c.name, c.to, c.other, c.n, c.m)
}

func lookup(dir int, name string) call { return call{what: "Lookup", ino: dir, name: name} }
func getattr(ino int) call             { return call{what: "Getattr", ino: ino} }
func chmod(ino, perm int) call         { return call{what: "Chmod", ino: ino, n: perm} }
func chown(ino, uid int) call          { return call{what: "Chown", ino: ino, n: uid} }
func resize(ino, size int) call        { return call{what: "Resize", ino: ino, n: size} }
func readlink(ino int) call            { return call{what: "Readlink", ino: ino} }
func unlink(dir int, name string) call { return call{what: "Unlink", ino: dir, name: name} }
func rmdir(dir int, name string) call  { return call{what: "Rmdir", ino: dir, name: name} }
func get(ino, off, n int) call         { return call{what: "Get", ino: ino, n: off, m: n} }
func list(ino int) call                { return call{what: "List", ino: ino} }
func open(ino int) call                { return call{what: "Open", ino: ino} }
func shut(ino int) call                { return call{what: "Close", ino: ino} }
func sync() call                       { return call{what: "Sync"} }

func create(dir int, name string, perm, uid int) call {
	return call{what: "Create", ino: dir, name: name, n: perm, m: uid}
}

func mkdir(dir int, name string, perm, uid int) call {
	return call{what: "Mkdir", ino: dir, name: name, n: perm, m: uid}
}

func symlink(dir int, name, target string, uid int) call {
	return call{what: "Symlink", ino: dir, name: name, other: target, m: uid}
}

func link(dir int, name string, ino int) call {
	return call{what: "Link", ino: dir, name: name, to: ino}
}

func rename(from int, name string, to int, other string) call {
	return call{what: "Rename", ino: from, name: name, to: to, other: other}
}

func put(ino, off int, text string) call {
	return call{what: "Put", ino: ino, n: off, other: text}
}

// do does the call on a tree, and is what it answers.
func (c call) do(x *tree.Tree) (a answer) {
	switch c.what {
	case "Lookup":
		a.attr, a.e = x.Lookup(c.ino, c.name)
	case "Getattr":
		a.attr, a.e = x.Getattr(c.ino)
	case "Chmod":
		a.e = x.Chmod(c.ino, c.n)
	case "Chown":
		a.e = x.Chown(c.ino, c.n)
	case "Resize":
		a.e = x.Resize(c.ino, c.n)
	case "Create":
		a.attr, a.e = x.Create(c.ino, c.name, c.n, c.m)
	case "Mkdir":
		a.attr, a.e = x.Mkdir(c.ino, c.name, c.n, c.m)
	case "Symlink":
		a.attr, a.e = x.Symlink(c.ino, c.name, c.other, c.m)
	case "Readlink":
		a.text, a.e = x.Readlink(c.ino)
	case "Link":
		a.attr, a.e = x.Link(c.ino, c.name, c.to)
	case "Unlink":
		a.e = x.Unlink(c.ino, c.name)
	case "Rmdir":
		a.e = x.Rmdir(c.ino, c.name)
	case "Rename":
		a.e = x.Rename(c.ino, c.name, c.to, c.other)
	case "Get":
		a.text, a.e = x.Get(c.ino, c.n, c.m)
	case "Put":
		a.e = x.Put(c.ino, c.n, c.other)
	case "List":
		var l []slot.Entry
		l, a.e = x.List(c.ino)
		a.list = listed(l)
	case "Open":
		a.e = x.Open(c.ino)
	case "Close":
		a.e = x.Close(c.ino)
	case "Sync":
		a.e = x.Sync()
	default:
		panic(c.what)
	}
	return a
}

// pair is a tree, and its model.
type pair struct {
	d *disk.Disk
	x *tree.Tree
	m *model
}

// fresh is a tree on a disk that was full of noise.
func fresh(t *testing.T, pages, inodes int) *pair {
	t.Helper()
	d := noisy(t, pages)
	if e := tree.Format(d, inodes); e != api.OK {
		t.Fatalf("Format: %d", e)
	}
	p := &pair{d, mounted(t, d), formatted(pages, inodes)}
	p.like(t, "fresh")
	return p
}

func noisy(t *testing.T, pages int) *disk.Disk {
	t.Helper()
	d, e := disk.New(pages)
	if e != api.OK {
		t.Fatalf("New: %d", e)
	}
	c := chance(pages)
	for i := range pages {
		d.Write(i, api.Page(c.bytes(api.PageSize)))
	}
	d.Flush()
	return d
}

func mounted(t *testing.T, d *disk.Disk) *tree.Tree {
	t.Helper()
	x, e := tree.Mount(d)
	if x == nil || e != api.OK || x.Over() {
		t.Fatalf("Mount: %v, %d", x, e)
	}
	return x
}

// quiet does calls on both sides, and holds their answers against each other.
func (p *pair) quiet(t *testing.T, l ...call) (want answer) {
	t.Helper()
	for _, c := range l {
		p.m, want = p.m.on(c)
		if got := c.do(p.x); got != want {
			t.Fatalf("%v of %v: %+v, not %+v", c, l, got, want)
		}
	}
	return want
}

// act is one of these, behind which all is held against each other.
func (p *pair) act(t *testing.T, c call) answer {
	t.Helper()
	a := p.quiet(t, c)
	p.like(t, c.String())
	return a
}

// must is acts that are done.
func (p *pair) must(t *testing.T, l ...call) {
	t.Helper()
	for _, c := range l {
		if a := p.act(t, c); a.e != api.OK {
			t.Fatalf("%v: %d", c, a.e)
		}
	}
}

// made is an act that makes an inode, which it is.
func (p *pair) made(t *testing.T, c call) int {
	t.Helper()
	p.must(t, c)
	return p.m.at(c.ino, c.name)
}

// refused is acts that fail with that error: whatever the model says of them.
func (p *pair) refused(t *testing.T, want api.Errno, l ...call) {
	t.Helper()
	for _, c := range l {
		if a := p.act(t, c); a != failed(want) {
			t.Fatalf("%v: %+v, not %d", c, a, want)
		}
	}
}

// again mounts the tree once more, behind a Sync and a crash.
func (p *pair) again(t *testing.T) {
	t.Helper()
	p.must(t, sync())
	p.d.Crash()
	p.x, p.m = mounted(t, p.d), p.m.mounted()
	p.like(t, "mounted again")
}

// like holds all that the tree tells against the model, and asks that the tree is one.
func (p *pair) like(t *testing.T, what string) {
	t.Helper()
	if got, want := toldBy(t, p.x), p.m.told(); got != want {
		t.Fatalf("%s:\n%.3000s\nnot\n%.3000s", what, got, want)
	}
	isOne(t, what, p.x)
}

// told is all that a tree tells of the inodes, of what is free and what is spare.
func (m *model) told() string {
	var b strings.Builder
	links := m.links()
	for i := 1; i <= m.inodes; i++ {
		n := m.nodes[i]
		if n == nil {
			continue
		}
		fmt.Fprintf(&b, "%v %d open ", m.attrs(i, links), m.opens[i])
		if n.kind == api.Dir {
			b.WriteString(listed(m.list(i)))
		} else {
			b.WriteString(short(string(n.bytes)))
		}
		b.WriteString("\n")
	}
	fmt.Fprintf(&b, "%d free, %d spare", m.free(), m.spare())
	return b.String()
}

// toldBy is what the tree itself tells.
func toldBy(t *testing.T, x *tree.Tree) string {
	t.Helper()
	var b strings.Builder
	v := x.Volume()
	for i := 1; i <= v.Plan().Inodes; i++ {
		a, e := x.Getattr(i)
		if e == api.ENOENT {
			if n, e := v.Inode(i); n != (inode.Inode{}) || e != api.OK || a != (api.Attr{}) || x.Opens(i) != 0 {
				t.Fatalf("inode %d isn't there: %v, %v, %d, %d open", i, a, n, e, x.Opens(i))
			}
			continue
		}
		text, e := v.Read(i, 0, api.MaxFile)
		if e != api.OK {
			t.Fatalf("Read(%d): %d", i, e)
		}
		fmt.Fprintf(&b, "%v %d open ", a, x.Opens(i))
		if a.Kind == api.Dir {
			b.WriteString(listed(entriesOf(t, text)))
		} else {
			b.WriteString(short(text))
		}
		b.WriteString("\n")
	}
	fmt.Fprintf(&b, "%d free, %d spare", x.Free(), x.Spare())
	return b.String()
}

// short is a file's bytes as one text, without the pages that are 0.
func short(text string) string {
	var b strings.Builder
	for at := 0; at < len(text); at += 64 {
		if p := text[at:min(at+64, len(text))]; p != zeros[:len(p)] {
			fmt.Fprintf(&b, "%d %q ", at, p)
		}
	}
	return b.String()
}

// entriesOf is a directory's entries, by its bytes.
func entriesOf(t *testing.T, text string) (l []slot.Entry) {
	t.Helper()
	if len(text)%64 != 0 {
		t.Fatalf("a directory of %d bytes", len(text))
	}
	for ; text != ""; text = text[16:] {
		if text[:16] != zeros[:16] {
			l = append(l, slot.Entry{Ino: int(text[0])*256 + int(text[1]), Name: text[3 : 3+text[2]]})
		}
	}
	return l
}

// isOne asks that the tree is one (P14.2), by what lies on its volume.
func isOne(t *testing.T, what string, x *tree.Tree) {
	t.Helper()
	v := x.Volume()
	leads, dirs := map[int]int{}, map[int]int{}
	entries := map[int][]slot.Entry{}
	kinds := map[int]inode.Inode{}
	for i := 1; i <= v.Plan().Inodes; i++ {
		n, e := v.Inode(i)
		if e != api.OK || !inode.Right(n, v.Plan()) {
			t.Fatalf("%s: inode %d is %v, %d", what, i, n, e)
		}
		kinds[i] = n
		if n.Kind == api.Dir {
			text, _ := v.Read(i, 0, api.MaxFile)
			entries[i] = entriesOf(t, text)
		}
	}
	for i, l := range entries {
		names := map[string]bool{}
		for _, e := range l {
			leads[e.Ino]++
			if kinds[e.Ino].Kind == api.Dir {
				dirs[i]++
			}
			if kinds[e.Ino].Links == 0 || names[e.Name] || !slot.Right(e) {
				t.Fatalf("%s: directory %d has the entry %v, which leads to %v", what, i, e, kinds[e.Ino])
			}
			names[e.Name] = true
		}
	}
	reached := map[int]bool{}
	var reach func(i int)
	reach = func(i int) {
		if reached[i] && kinds[i].Kind == api.Dir {
			t.Fatalf("%s: Dir %d is come to twice", what, i)
		}
		reached[i] = true
		for _, e := range entries[i] {
			reach(e.Ino)
		}
	}
	reach(root)
	for i, n := range kinds {
		ought := leads[i]
		if n.Kind == api.Dir && (i == root || leads[i] > 0) {
			ought = 2 + dirs[i]
		}
		if n.Links != ought || reached[i] != (n.Links > 0) {
			t.Fatalf("%s: inode %d has %d Links, not %d; come to: %v", what, i, n.Links, ought, reached[i])
		}
		if n.Kind == api.Dir && (i == root) != (leads[i] == 0) && n.Links > 0 || n.Kind == api.Dir && leads[i] > 1 {
			t.Fatalf("%s: %d entries lead to the Dir %d", what, leads[i], i)
		}
		if n.Kind != api.None && n.Links == 0 && (x.Opens(i) == 0 || len(entries[i]) > 0) {
			t.Fatalf("%s: inode %d has no Links, is open %d times, and has entries %v", what, i, x.Opens(i), entries[i])
		}
	}
}
