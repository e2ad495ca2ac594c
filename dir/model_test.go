package dir_test

import (
	"fmt"
	"slices"
	"strings"
	"testing"

	"narthex/api"
	"narthex/dir"
	"narthex/disk"
	"narthex/file"
	"narthex/inode"
	"narthex/slot"
)

// The inodes of a fresh volume: two directories, a File and a Link, and room for four more.
const (
	root  = 1
	other = 2
	aFile = 3
	aLink = 4
	spare = 5

	inodes = 8
	dataAt = 47 // the first data page of a disk with so many inodes, as chapter 8 says it
)

// chance is numbers that look like chance, the same in each run.
type chance uint32

func (c *chance) below(n int) int {
	*c = *c*1664525 + 1013904223
	return int(*c>>8) % n
}

func (c *chance) page() (p api.Page) {
	for k := range p {
		p[k] = byte(c.below(256))
	}
	return p
}

// model is a plain list of slots for each directory, zero ones where a slot is empty, and how many data pages are free.
type model struct {
	slots map[int][]slot.Entry
	free  int
}

func (m *model) clone() *model {
	c := &model{slots: map[int][]slot.Entry{}, free: m.free}
	for ino, l := range m.slots {
		c.slots[ino] = slices.Clone(l)
	}
	return c
}

// first is the first slot with that name, or -1.
func (m *model) first(ino int, name string) int {
	for k, e := range m.slots[ino] {
		if e.Ino != 0 && e.Name == name {
			return k
		}
	}
	return -1
}

func (m *model) entries(ino int) (l []slot.Entry) {
	for _, e := range m.slots[ino] {
		if e.Ino != 0 {
			l = append(l, e)
		}
	}
	return l
}

// add takes the first empty slot, or lets the list be longer by four.
func (m *model) add(ino int, e slot.Entry) api.Errno {
	if x := wrongName(e.Name); x != api.OK {
		return x
	}
	if e.Ino < 1 || e.Ino > 65535 {
		return api.EINVAL
	}
	if m.first(ino, e.Name) >= 0 {
		return api.EEXIST
	}
	for k, old := range m.slots[ino] {
		if old.Ino == 0 {
			m.slots[ino][k] = e
			return api.OK
		}
	}
	need := pagesFor(len(m.slots[ino]) / 4)
	if m.free < need {
		return api.ENOSPC
	}
	m.free -= need
	m.slots[ino] = append(m.slots[ino], e, slot.Entry{}, slot.Entry{}, slot.Entry{})
	return api.OK
}

// pagesFor is how many pages a file takes for its page of that index, if it has all pages ahead of it.
func pagesFor(index int) int {
	switch {
	case index == 36: // the first page of Dind: a page of numbers, and one in which they stand
		return 3
	case index == 4, index > 36 && (index-36)%32 == 0:
		return 2
	}
	return 1
}

func (m *model) set(ino int, e slot.Entry) api.Errno {
	k := m.first(ino, e.Name)
	if k < 0 {
		return api.ENOENT
	}
	if e.Ino < 1 || e.Ino > 65535 {
		return api.EINVAL
	}
	m.slots[ino][k].Ino = e.Ino
	return api.OK
}

func (m *model) remove(ino int, name string) api.Errno {
	k := m.first(ino, name)
	if k < 0 {
		return api.ENOENT
	}
	m.slots[ino][k] = slot.Entry{}
	return api.OK
}

// wrongName asks for each error by itself.
func wrongName(name string) api.Errno {
	switch {
	case len(name) == 0:
		return api.ENOENT
	case len(name) > 13:
		return api.ENAMETOOLONG
	case name == "." || name == ".." || strings.Contains(name, "/") || strings.Contains(name, "\x00"):
		return api.EINVAL
	}
	return api.OK
}

// laid is the bytes of slots, as chapter 12 says them.
func laid(l ...slot.Entry) string {
	var b strings.Builder
	for _, e := range l {
		b.WriteString(string([]byte{byte(e.Ino / 256), byte(e.Ino % 256), byte(len(e.Name))}))
		b.WriteString(e.Name)
		b.WriteString(strings.Repeat("\x00", 13-len(e.Name)))
	}
	return b.String()
}

// listed is entries as one text.
func listed(l []slot.Entry) string {
	var b strings.Builder
	for _, e := range l {
		fmt.Fprintf(&b, "%d %q, ", e.Ino, e.Name)
	}
	return b.String()
}

// call is a call of a directory.
type call struct {
	what string
	dir  int
	name string
	ino  int
}

func (c call) String() string { return fmt.Sprintf("%s(%d, %.30q, %d)", c.what, c.dir, c.name, c.ino) }

func find(dir int, name string) call         { return call{what: "Find", dir: dir, name: name} }
func add(dir int, name string, ino int) call { return call{"Add", dir, name, ino} }
func set(dir int, name string, ino int) call { return call{"Set", dir, name, ino} }
func remove(dir int, name string) call       { return call{what: "Remove", dir: dir, name: name} }
func all(dir int) call                       { return call{what: "All", dir: dir} }
func isEmpty(dir int) call                   { return call{what: "Empty", dir: dir} }

// do does the call on a directory of that step, and is what it answers.
func (c call) do(s *file.Step) string { return c.on(dir.Of(s, c.dir)) }

func (c call) on(d dir.Dir) string {
	switch c.what {
	case "Find":
		return fmt.Sprint(d.Find(c.name))
	case "Add":
		d.Add(c.name, c.ino)
	case "Set":
		d.Set(c.name, c.ino)
	case "Remove":
		d.Remove(c.name)
	case "All":
		return listed(d.All())
	case "Empty":
		return fmt.Sprint(d.Empty())
	}
	return ""
}

// told is what the model answers.
func (c call) told(m *model) (string, api.Errno) {
	if c.dir == aFile || c.dir == aLink {
		return "", api.ENOTDIR
	}
	if _, is := m.slots[c.dir]; !is {
		return "", api.EINVAL
	}
	e := slot.Entry{Ino: c.ino, Name: c.name}
	switch c.what {
	case "Find":
		if k := m.first(c.dir, c.name); k >= 0 {
			return fmt.Sprint(m.slots[c.dir][k].Ino), api.OK
		}
		return "0", api.OK
	case "Add":
		return "", m.add(c.dir, e)
	case "Set":
		return "", m.set(c.dir, e)
	case "Remove":
		return "", m.remove(c.dir, c.name)
	case "All":
		return listed(m.entries(c.dir)), api.OK
	}
	return fmt.Sprint(len(m.entries(c.dir)) == 0), api.OK
}

// on is the model behind a step, what its calls answer till one fails, and with what.
func (m *model) on(l []call) (*model, []string, api.Errno) {
	next := m.clone()
	var answers []string
	for _, c := range l {
		a, e := c.told(next)
		if e != api.OK {
			return m, answers, e
		}
		answers = append(answers, a)
	}
	return next, answers, api.OK
}

// do does a step of calls on the volume.
func do(v *file.Volume, l []call) ([]string, api.Errno) {
	var answers []string
	e := v.Do(func(s *file.Step) {
		for _, c := range l {
			answers = append(answers, c.do(s))
		}
	})
	return answers, e
}

// pair is a volume, and its model.
type pair struct {
	d *disk.Disk
	v *file.Volume
	m *model
}

// fresh is a volume with so many data pages, on a disk that was full of noise.
func fresh(t *testing.T, room int) *pair {
	t.Helper()
	d := formatted(t, room)
	p := &pair{d, mounted(t, d), &model{map[int][]slot.Entry{root: nil, other: nil}, room}}
	p.like(t, "fresh")
	return p
}

// formatted is a disk with such a volume.
func formatted(t *testing.T, room int) *disk.Disk {
	t.Helper()
	d, e := disk.New(dataAt + room)
	if e != api.OK {
		t.Fatalf("New: %d", e)
	}
	c := chance(room)
	for i := range d.Pages() {
		d.Write(i, c.page())
	}
	d.Flush()
	if e := file.Format(d, inodes); e != api.OK {
		t.Fatalf("Format: %d", e)
	}
	v := mounted(t, d)
	if e := v.Do(func(s *file.Step) {
		s.New(inode.Inode{Kind: api.Dir, Perm: 448, Uid: 3, Links: 2})
		s.New(inode.Inode{Kind: api.File, Perm: 420, Uid: 4, Links: 1})
		s.New(inode.Inode{Kind: api.Link, Perm: 511, Uid: 5, Links: 1})
	}); e != api.OK || v.Sync() != api.OK {
		t.Fatalf("New: %d", e)
	}
	return d
}

func mounted(t *testing.T, d *disk.Disk) *file.Volume {
	t.Helper()
	v, e := file.Mount(d)
	if e != api.OK {
		t.Fatalf("Mount: %d", e)
	}
	return v
}

// step does a step on both sides, and holds them against each other.
func (p *pair) step(t *testing.T, l ...call) api.Errno {
	t.Helper()
	next, want, wantE := p.m.on(l)
	got, e := do(p.v, l)
	if e != wantE || !slices.Equal(got, want) {
		t.Fatalf("%v: %d and %q, not %d and %q", l, e, got, wantE, want)
	}
	p.m = next
	p.like(t, fmt.Sprint(l))
	return e
}

// must is a step that is done.
func (p *pair) must(t *testing.T, l ...call) {
	t.Helper()
	if e := p.step(t, l...); e != api.OK {
		t.Fatalf("%v: %d", l, e)
	}
}

// refused is a step that fails with that error.
func (p *pair) refused(t *testing.T, want api.Errno, l ...call) {
	t.Helper()
	if e := p.step(t, l...); e != want {
		t.Fatalf("%v: %d, not %d", l, e, want)
	}
}

// lays lets a directory have these slots, written by hand, a whole number of pages.
func (p *pair) lays(t *testing.T, ino int, l ...slot.Entry) {
	t.Helper()
	if e := p.v.Do(func(s *file.Step) {
		s.Truncate(ino, 0)
		s.Write(ino, 0, laid(l...))
	}); e != api.OK {
		t.Fatalf("lays: %d", e)
	}
	p.m.slots[ino] = slices.Clone(l)
	p.m.free = p.v.Free()
	p.like(t, "laid by hand")
}

// like holds the volume against the model: each byte of the directories, what is known of each inode, how many pages are free, and what Find and All of a volume tell.
func (p *pair) like(t *testing.T, what string) {
	t.Helper()
	for ino, l := range p.m.slots {
		text, e := p.v.Read(ino, 0, api.MaxFile)
		if want := laid(l...); text != want || e != api.OK {
			t.Fatalf("%.300s: directory %d is %q, %d, not %q", what, ino, text, e, want)
		}
		entries, e := dir.All(p.v, ino)
		if want := p.m.entries(ino); !slices.Equal(entries, want) || e != api.OK {
			t.Fatalf("%.300s: All(%d): %v, %d, not %v", what, ino, entries, e, want)
		}
	}
	for ino, want := range map[int]inode.Inode{
		root:  {Kind: api.Dir, Perm: 493, Links: 2, Size: 16 * len(p.m.slots[root])},
		other: {Kind: api.Dir, Perm: 448, Uid: 3, Links: 2, Size: 16 * len(p.m.slots[other])},
		aFile: {Kind: api.File, Perm: 420, Uid: 4, Links: 1},
		aLink: {Kind: api.Link, Perm: 511, Uid: 5, Links: 1},
		spare: {},
	} {
		got, e := p.v.Inode(ino)
		got.Direct, got.Ind, got.Dind = want.Direct, want.Ind, want.Dind
		if got != want || e != api.OK {
			t.Fatalf("%.300s: inode %d is %v, %d, not %v", what, ino, got, e, want)
		}
	}
	if p.v.Free() != p.m.free {
		t.Fatalf("%.300s: %d pages are free, not %d", what, p.v.Free(), p.m.free)
	}
}
