package tree_test

import (
	"fmt"
	"maps"
	"slices"
	"strings"

	"narthex/api"
	"narthex/slot"
)

const root = 1

// chance is numbers that look like chance, the same in each run.
type chance uint32

func (c *chance) below(n int) int {
	*c = *c*1664525 + 1013904223
	return int(*c>>8) % n
}

func (c *chance) of(l ...int) int { return l[c.below(len(l))] }

func (c *chance) bytes(n int) []byte {
	l := make([]byte, n)
	for i := range l {
		l[i] = byte(c.below(256))
	}
	return l
}

// node is what the model knows of an inode: of a Dir its slots, zero ones where a slot is empty; of the others their bytes, and which of their pages are there. Links aren't kept: they are counted.
type node struct {
	kind, perm, uid int

	slots []slot.Entry
	bytes []byte
	has   map[int]bool
}

// model is a plain tree: nodes by their inodes, and how often each is open.
type model struct {
	pages, inodes int
	nodes         map[int]*node
	opens         map[int]int
}

// formatted is a model of what Format makes.
func formatted(pages, inodes int) *model {
	return &model{pages, inodes, map[int]*node{root: {kind: api.Dir, perm: 493}}, map[int]int{}}
}

// clone shares the nodes: own is asked for those that change.
func (m *model) clone() *model {
	return &model{m.pages, m.inodes, maps.Clone(m.nodes), maps.Clone(m.opens)}
}

// own is a node that may be changed.
func (m *model) own(ino int) *node {
	n := *m.nodes[ino]
	n.slots, n.bytes, n.has = slices.Clone(n.slots), slices.Clone(n.bytes), maps.Clone(n.has)
	m.nodes[ino] = &n
	return &n
}

// get is the zero node, if the inode isn't taken.
func (m *model) get(ino int) node {
	if n := m.nodes[ino]; n != nil {
		return *n
	}
	return node{}
}

func (m *model) list(ino int) (l []slot.Entry) {
	for _, e := range m.get(ino).slots {
		if e != (slot.Entry{}) {
			l = append(l, e)
		}
	}
	return l
}

// at is the inode that a name leads to, or 0.
func (m *model) at(dir int, name string) int {
	for _, e := range m.list(dir) {
		if e.Name == name {
			return e.Ino
		}
	}
	return 0
}

// links are what the chapter says of Links, counted: of each inode.
func (m *model) links() map[int]int {
	names, dirs := map[int]int{}, map[int]int{}
	for dir := range m.nodes {
		for _, e := range m.list(dir) {
			names[e.Ino]++
			if m.nodes[e.Ino].kind == api.Dir {
				dirs[dir]++
			}
		}
	}
	for ino, n := range m.nodes {
		if n.kind == api.Dir && (names[ino] > 0 || ino == root) {
			names[ino] = 2 + dirs[ino]
		}
	}
	return names
}

func (m *model) attr(ino int) api.Attr { return m.attrs(ino, m.links()) }

func (m *model) attrs(ino int, links map[int]int) api.Attr {
	n := m.get(ino)
	return api.Attr{Ino: ino, Kind: n.kind, Perm: n.perm, Uid: n.uid, Links: links[ino], Size: len(n.bytes) + 16*len(n.slots)}
}

// pagesOf is how many data pages a node has, those of numbers too.
func pagesOf(n *node) int {
	has := maps.Clone(n.has)
	if n.kind == api.Dir {
		has = map[int]bool{}
		for i := range len(n.slots) / 4 {
			has[i] = true
		}
	}
	ind, inner := 0, map[int]bool{}
	for i := range has {
		switch {
		case i >= 36:
			inner[(i-36)/32] = true
		case i >= 4:
			ind = 1
		}
	}
	if len(inner) > 0 {
		return len(has) + ind + len(inner) + 1
	}
	return len(has) + ind
}

// free is below 0, if more pages were taken than there are.
func (m *model) free() int {
	n := m.pages - 43 - (m.inodes+1)/2
	for _, x := range m.nodes {
		n -= pagesOf(x)
	}
	return n
}

func (m *model) spare() int { return m.inodes - len(m.nodes) }

// least is the least inode that isn't taken, or 0.
func (m *model) least() int {
	for i := 1; i <= m.inodes; i++ {
		if m.nodes[i] == nil {
			return i
		}
	}
	return 0
}

// enter lets a name lead to an inode, in the first slot that is empty.
func (m *model) enter(dir int, name string, ino int) {
	d := m.own(dir)
	at := slices.Index(d.slots, slot.Entry{})
	if at < 0 {
		at = len(d.slots)
		d.slots = append(d.slots, make([]slot.Entry, 4)...)
	}
	d.slots[at] = slot.Entry{Ino: ino, Name: name}
}

// turn lets a name that is there lead to another inode; 0: its slot is empty.
func (m *model) turn(dir int, name string, ino int) {
	d := m.own(dir)
	for k, e := range d.slots {
		if e != (slot.Entry{}) && e.Name == name {
			d.slots[k].Ino = ino
			if ino == 0 {
				d.slots[k] = slot.Entry{}
			}
		}
	}
}

// sweep releases what has no Links and isn't open.
func (m *model) sweep() {
	links := m.links()
	for ino := range m.nodes {
		if links[ino] == 0 && m.opens[ino] == 0 {
			delete(m.nodes, ino)
		}
	}
}

// mounted is the model behind a Mount: nothing is open.
func (m *model) mounted() *model {
	c := m.clone()
	c.opens = map[int]int{}
	c.sweep()
	return c
}

// above tells whether an inode is the Dir dir, or one by which one comes to it.
func (m *model) above(ino, dir int) bool {
	for dir != root {
		if ino == dir {
			return true
		}
		up := 0
		for k := range m.nodes {
			for _, e := range m.list(k) {
				if e.Ino == dir {
					up = k
				}
			}
		}
		dir = up
	}
	return ino == root
}

// The errors that hold of what is handed in, OK else.

func first(l ...api.Errno) api.Errno {
	for _, e := range l {
		if e != api.OK {
			return e
		}
	}
	return api.OK
}

func when(is bool, e api.Errno) api.Errno {
	if is {
		return e
	}
	return api.OK
}

func (m *model) there(ino int) api.Errno { return when(m.nodes[ino] == nil, api.ENOENT) }

func (m *model) dir(ino int) api.Errno {
	return first(m.there(ino), when(m.get(ino).kind != api.Dir, api.ENOTDIR), when(m.links()[ino] == 0, api.ENOENT))
}

func (m *model) file(ino int) api.Errno {
	return first(m.there(ino), when(m.get(ino).kind == api.Dir, api.EISDIR), when(m.get(ino).kind == api.Link, api.EINVAL))
}

func (m *model) found(dir int, name string) api.Errno {
	return when(m.at(dir, name) == 0, api.ENOENT)
}

func (m *model) toAdd(dir int, name string) api.Errno {
	return first(wrongName(name), when(m.at(dir, name) != 0, api.EEXIST))
}

func (m *model) full() api.Errno { return when(m.free() < 0, api.ENOSPC) }

func wrongName(name string) api.Errno {
	return first(when(len(name) == 0, api.ENOENT), when(len(name) > 13, api.ENAMETOOLONG),
		when(name == "." || name == ".." || strings.Contains(name, "/") || strings.Contains(name, "\x00"), api.EINVAL))
}

func wrongPerm(n int) api.Errno { return when(n < 0 || n > 511, api.EINVAL) }

func wrongUid(n int) api.Errno { return when(n < 0 || n > 65535, api.EINVAL) }

// answer is all that a call answers.
type answer struct {
	e    api.Errno
	attr api.Attr
	text string
	list string
}

func failed(e api.Errno) answer { return answer{e: e} }

// listed is entries as one text.
func listed(l []slot.Entry) string {
	var b strings.Builder
	for _, e := range l {
		fmt.Fprintf(&b, "%d %q, ", e.Ino, e.Name)
	}
	return b.String()
}

// on is the model behind a call, and what is answered.
func (m *model) on(c call) (*model, answer) {
	next := m.clone()
	a := next.does(c)
	if a.e != api.OK {
		return m, failed(a.e)
	}
	next.sweep()
	return next, a
}

// does may leave a call half done, if it fails.
func (m *model) does(c call) answer {
	switch c.what {
	case "Lookup":
		if e := first(m.dir(c.ino), m.found(c.ino, c.name)); e != api.OK {
			return failed(e)
		}
		return answer{attr: m.attr(m.at(c.ino, c.name))}
	case "Getattr":
		return answer{e: m.there(c.ino), attr: m.attr(c.ino)}
	case "Chmod":
		e := first(m.there(c.ino), wrongPerm(c.n))
		if e == api.OK {
			m.own(c.ino).perm = c.n
		}
		return failed(e)
	case "Chown":
		e := first(m.there(c.ino), wrongUid(c.n))
		if e == api.OK {
			m.own(c.ino).uid = c.n
		}
		return failed(e)
	case "Create":
		return m.makes(c, api.File, first(m.dir(c.ino), wrongPerm(c.n), wrongUid(c.m)))
	case "Mkdir":
		return m.makes(c, api.Dir, first(m.dir(c.ino), wrongPerm(c.n), wrongUid(c.m), when(m.links()[c.ino] >= 40, api.EMLINK)))
	case "Symlink":
		e := first(m.dir(c.ino), when(c.other == "", api.ENOENT), when(len(c.other) > 60, api.ENAMETOOLONG), wrongUid(c.m))
		return m.makes(c, api.Link, e)
	case "Link":
		return m.linked(c)
	case "Unlink", "Rmdir":
		return failed(m.removed(c))
	case "Rename":
		return failed(m.renamed(c))
	case "List":
		return answer{e: m.dir(c.ino), list: listed(m.list(c.ino))}
	case "Open", "Close":
		return failed(m.opened(c))
	}
	return m.ofBytes(c)
}

func (m *model) makes(c call, kind int, own api.Errno) answer {
	ino := m.least()
	if e := first(own, m.toAdd(c.ino, c.name), when(ino == 0, api.ENOSPC)); e != api.OK {
		return failed(e)
	}
	n := &node{kind: kind, perm: c.n, uid: c.m}
	if kind == api.Link {
		n.perm, n.bytes, n.has = 511, []byte(c.other), map[int]bool{0: true}
	}
	m.nodes[ino] = n
	m.enter(c.ino, c.name, ino)
	return answer{e: m.full(), attr: m.attr(ino)}
}

func (m *model) linked(c call) answer {
	e := first(m.dir(c.ino), m.there(c.to), when(m.get(c.to).kind == api.Dir, api.EPERM), when(m.links()[c.to] == 0, api.ENOENT),
		when(m.links()[c.to] >= 40, api.EMLINK), m.toAdd(c.ino, c.name))
	if e != api.OK {
		return failed(e)
	}
	m.enter(c.ino, c.name, c.to)
	return answer{e: m.full(), attr: m.attr(c.to)}
}

func (m *model) removed(c call) api.Errno {
	ino := m.at(c.ino, c.name)
	e := first(m.dir(c.ino), m.found(c.ino, c.name))
	isDir := m.get(ino).kind == api.Dir
	if c.what == "Unlink" {
		e = first(e, when(isDir, api.EISDIR))
	} else {
		e = first(e, when(!isDir, api.ENOTDIR), when(len(m.list(ino)) > 0, api.ENOTEMPTY))
	}
	if e == api.OK {
		m.turn(c.ino, c.name, 0)
	}
	return e
}

func (m *model) renamed(c call) api.Errno {
	if e := first(m.dir(c.ino), m.dir(c.to), m.found(c.ino, c.name)); e != api.OK {
		return e
	}
	ino, old := m.at(c.ino, c.name), m.at(c.to, c.other)
	isDir, oldIsDir := m.get(ino).kind == api.Dir, m.get(old).kind == api.Dir
	if isDir && m.above(ino, c.to) {
		return api.EINVAL
	}
	if old == ino {
		return api.OK
	}
	tooMany := when(isDir && c.ino != c.to && m.links()[c.to] >= 40, api.EMLINK)
	if old != 0 {
		e := first(tooMany, when(isDir && !oldIsDir, api.ENOTDIR), when(isDir && len(m.list(old)) > 0, api.ENOTEMPTY), when(!isDir && oldIsDir, api.EISDIR))
		if e != api.OK {
			return e
		}
		m.turn(c.to, c.other, ino)
	} else {
		if e := wrongName(c.other); e != api.OK {
			return e
		}
		m.enter(c.to, c.other, ino)
		if e := first(m.full(), tooMany); e != api.OK {
			return e
		}
	}
	m.turn(c.ino, c.name, 0)
	return api.OK
}

func (m *model) opened(c call) api.Errno {
	e := first(m.there(c.ino), when(c.what == "Close" && m.opens[c.ino] == 0, api.EBADF))
	if e != api.OK {
		return e
	}
	if c.what == "Open" {
		m.opens[c.ino]++
	} else if m.opens[c.ino]--; m.opens[c.ino] == 0 {
		delete(m.opens, c.ino)
	}
	return api.OK
}

// ofBytes is the calls that are for a file's bytes.
func (m *model) ofBytes(c call) answer {
	n := m.get(c.ino)
	switch c.what {
	case "Readlink":
		return answer{e: first(m.there(c.ino), when(n.kind != api.Link, api.EINVAL)), text: string(n.bytes)}
	case "Resize":
		e := first(m.file(c.ino), when(c.n < 0, api.EINVAL), when(c.n > 67840, api.EFBIG))
		if e == api.OK {
			m.own(c.ino).resize(c.n)
		}
		return failed(e)
	case "Get":
		if e := first(m.file(c.ino), when(c.m > 512 || c.n < 0 || c.m < 0, api.EINVAL)); e != api.OK {
			return failed(e)
		}
		from := min(c.n, len(n.bytes))
		return answer{text: string(n.bytes[from:min(from+c.m, len(n.bytes))])}
	case "Put":
		e := first(m.file(c.ino), when(len(c.other) > 512 || c.n < 0, api.EINVAL))
		if e == api.OK && len(c.other) > 0 {
			e = when(c.n > 67840-len(c.other), api.EFBIG)
			if e == api.OK {
				m.own(c.ino).write(c.n, c.other)
			}
		}
		return failed(first(e, m.full()))
	}
	return answer{} // Sync
}

func (n *node) resize(size int) {
	for i := range n.has {
		if i*64 >= size {
			delete(n.has, i)
		}
	}
	n.bytes = slices.Clone(n.bytes[:min(size, len(n.bytes))])
	n.bytes = append(n.bytes, make([]byte, size-len(n.bytes))...)
}

func (n *node) write(off int, text string) {
	if more := off + len(text) - len(n.bytes); more > 0 {
		n.bytes = append(n.bytes, make([]byte, more)...)
	}
	copy(n.bytes[off:], text)
	if n.has == nil {
		n.has = map[int]bool{}
	}
	for i := off / 64; i <= (off+len(text)-1)/64; i++ {
		n.has[i] = true
	}
}
