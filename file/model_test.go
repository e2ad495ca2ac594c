package file_test

import (
	"encoding/binary"
	"fmt"
	"maps"
	"slices"
	"strings"
	"testing"

	"narthex/api"
	"narthex/disk"
	"narthex/file"
	"narthex/inode"
	"narthex/span"
)

// Where what lies, and how many pages a step has room for, as chapters 8, 5 and 6 say it.
const (
	journalAt   = 1
	inodeBitsAt = 41
	dataBitsAt  = 42
	tableAt     = 43
	stepRoom    = 37
)

// chance is numbers that look like chance, the same in each run.
type chance uint32

func (c *chance) below(n int) int {
	*c = *c*1664525 + 1013904223
	return int(*c>>8) % n
}

func (c *chance) bytes(n int) []byte {
	l := make([]byte, n)
	for i := range l {
		l[i] = byte(c.below(256))
	}
	return l
}

func (c *chance) text(n int) string { return string(c.bytes(n)) }

func (c *chance) of(l ...int) int { return l[c.below(len(l))] }

// known is what the model knows of an inode: its bytes in one piece, and which of the disk's pages it has.
type known struct {
	kind, perm, uid, links int

	bytes   []byte
	at      map[int]int // by the pages' numbers in the file
	numbers map[int]int // of the pages of numbers: ind, dind, and those that dind tells by their places there
}

const (
	ind  = -2
	dind = -1
)

func (k *known) clone() *known {
	if k == nil {
		return nil
	}
	c := *k
	c.bytes, c.at, c.numbers = slices.Clone(k.bytes), maps.Clone(k.at), maps.Clone(k.numbers)
	return &c
}

func (k *known) inode() inode.Inode {
	if k == nil {
		return inode.Inode{}
	}
	x := inode.Inode{Kind: k.kind, Perm: k.perm, Uid: k.uid, Links: k.links, Size: len(k.bytes)}
	for i := range x.Direct {
		x.Direct[i] = k.at[i]
	}
	x.Ind, x.Dind = k.numbers[ind], k.numbers[dind]
	return x
}

// above is the pages of numbers that lead to a page, from the inode on.
func above(index int) []int {
	switch {
	case index < 4:
		return nil
	case index < 36:
		return []int{ind}
	}
	return []int{dind, (index - 36) / 32}
}

// model tells what a volume does.
type model struct {
	pages, inodes int
	list          []*known // by inodes; nil: it isn't taken
	used          map[int]bool
	put           map[int]bool // the step's pages
}

// formatted is a model of what Format makes.
func formatted(pages, inodes int) *model {
	m := &model{pages: pages, inodes: inodes, list: make([]*known, inodes+1), used: map[int]bool{}}
	m.list[1] = &known{kind: api.Dir, perm: 493, links: 2, at: map[int]int{}, numbers: map[int]int{}}
	return m
}

// clone is the same, with a step that has no pages.
func (m *model) clone() *model {
	c := &model{pages: m.pages, inodes: m.inodes, used: maps.Clone(m.used), put: map[int]bool{}}
	for _, k := range m.list {
		c.list = append(c.list, k.clone())
	}
	return c
}

func (m *model) data() int { return tableAt + (m.inodes+1)/2 }

func (m *model) free() int { return m.pages - m.data() - len(m.used) }

func (m *model) spare() (n int) {
	for _, k := range m.list[1:] {
		if k == nil {
			n++
		}
	}
	return n
}

func (m *model) has(i int) bool { return i >= 1 && i <= m.inodes }

func (m *model) inode(i int) (inode.Inode, api.Errno) {
	if !m.has(i) {
		return inode.Inode{}, api.EINVAL
	}
	return m.list[i].inode(), api.OK
}

func (m *model) taken(i int) (*known, api.Errno) {
	if !m.has(i) || m.list[i] == nil {
		return nil, api.EINVAL
	}
	return m.list[i], api.OK
}

func (m *model) read(i, off, n int) (string, api.Errno) {
	k, e := m.taken(i)
	if e != api.OK || off < 0 || n < 0 || n > 67840 {
		return "", api.EINVAL
	}
	if off >= len(k.bytes) {
		return "", api.OK
	}
	text := k.bytes[off:]
	return string(text[:min(n, len(text))]), api.OK
}

// full tells whether the step has more pages than there is room for.
func (m *model) full() api.Errno {
	if len(m.put) > stepRoom {
		return api.ENOSPC
	}
	return api.OK
}

// putInode is asked with what the inode was: one that is as it was isn't put.
func (m *model) putInode(i int, was inode.Inode) {
	if m.list[i].inode() != was {
		m.put[tableAt+(i-1)/2] = true
	}
}

func right(x inode.Inode) bool {
	return x.Kind >= 1 && x.Kind <= 3 && x.Perm >= 0 && x.Perm <= 511 && x.Uid >= 0 && x.Uid <= 65535 && x.Links >= 0 && x.Links <= 40
}

func (m *model) change(i int, x inode.Inode) api.Errno {
	k, e := m.taken(i)
	if e != api.OK || !right(x) {
		return api.EINVAL
	}
	was := k.inode()
	k.kind, k.perm, k.uid, k.links = x.Kind, x.Perm, x.Uid, x.Links
	m.putInode(i, was)
	return m.full()
}

func (m *model) add(x inode.Inode) (int, api.Errno) {
	if !right(x) {
		return 0, api.EINVAL
	}
	for i := 1; i <= m.inodes; i++ {
		if m.list[i] == nil {
			m.list[i] = &known{kind: x.Kind, perm: x.Perm, uid: x.Uid, links: x.Links, at: map[int]int{}, numbers: map[int]int{}}
			m.putInode(i, inode.Inode{})
			m.put[inodeBitsAt] = true
			return i, m.full()
		}
	}
	return 0, api.ENOSPC
}

func (m *model) release(i int) api.Errno {
	k, e := m.taken(i)
	if e != api.OK {
		return e
	}
	was := k.inode()
	m.cut(k, 0)
	m.list[i] = nil
	m.putInode(i, was)
	m.put[inodeBitsAt] = true
	return m.full()
}

// take is the least page that is free; 0, if none is.
func (m *model) take() int {
	for n := m.data(); n < m.pages; n++ {
		if !m.used[n] {
			m.used[n], m.put[n], m.put[dataBitsAt] = true, true, true
			return n
		}
	}
	return 0
}

func (m *model) write(i, off int, text string) api.Errno {
	k, e := m.taken(i)
	if e != api.OK || off < 0 {
		return api.EINVAL
	}
	if text == "" {
		return api.OK
	}
	if off > 67840 || off+len(text) > 67840 {
		return api.EFBIG
	}
	was := k.inode()
	for index := off / 64; index <= (off+len(text)-1)/64; index++ {
		if !m.reach(k, index) {
			return api.ENOSPC
		}
	}
	if more := off + len(text) - len(k.bytes); more > 0 {
		k.bytes = append(k.bytes, make([]byte, more)...)
	}
	copy(k.bytes[off:], text)
	m.putInode(i, was)
	return m.full()
}

// reach takes what isn't there of a page and of the pages of numbers above it, from the inode on. A page of numbers that gets one is put.
func (m *model) reach(k *known, index int) bool {
	above := above(index)
	for _, key := range above {
		if k.numbers[key] == 0 {
			n := m.take()
			if n == 0 {
				return false
			}
			k.numbers[key] = n
			if key >= 0 {
				m.put[k.numbers[dind]] = true
			}
		}
	}
	if k.at[index] == 0 {
		n := m.take()
		if n == 0 {
			return false
		}
		k.at[index] = n
		if len(above) > 0 {
			m.put[k.numbers[above[len(above)-1]]] = true
		}
	}
	m.put[k.at[index]] = true
	return true
}

// cut frees the pages from one on, and the pages of numbers that lead to none any more; of those that lose one, and have others, it puts the page.
func (m *model) cut(k *known, from int) {
	loses := map[int]bool{}
	for index, n := range k.at {
		if index >= from {
			m.giveBack(n)
			delete(k.at, index)
			if l := above(index); len(l) > 0 {
				loses[l[len(l)-1]] = true
			}
		}
	}
	needed := map[int]bool{}
	for index := range k.at {
		for _, key := range above(index) {
			needed[key] = true
		}
	}
	for key, n := range k.numbers {
		if !needed[key] {
			m.giveBack(n)
			delete(k.numbers, key)
			if key >= 0 {
				loses[dind] = true
			}
		}
	}
	for key := range loses {
		if n := k.numbers[key]; n != 0 {
			m.put[n] = true
		}
	}
}

func (m *model) giveBack(n int) {
	delete(m.used, n)
	m.put[dataBitsAt] = true
}

func (m *model) truncate(i, size int) api.Errno {
	k, e := m.taken(i)
	if e != api.OK || size < 0 {
		return api.EINVAL
	}
	if size > 67840 {
		return api.EFBIG
	}
	was := k.inode()
	m.cut(k, (size+63)/64)
	if size < len(k.bytes) {
		if strings.Trim(string(k.bytes[size:min(len(k.bytes), (size+63)/64*64)]), "\x00") != "" {
			m.put[k.at[size/64]] = true
		}
		k.bytes = k.bytes[:size]
	}
	k.bytes = append(k.bytes, make([]byte, size-len(k.bytes))...)
	m.putInode(i, was)
	return m.full()
}

// released is the model behind a Mount: without the inodes that have no Links.
func (m *model) released() *model {
	c := m.clone()
	for i, k := range c.list {
		if k != nil && k.links == 0 {
			c.release(i)
		}
	}
	return c
}

// told is all that a volume tells of the inodes that are taken, of what is free and what is spare.
func (m *model) told() string {
	var b strings.Builder
	for i, k := range m.list {
		if k != nil {
			fmt.Fprintf(&b, "%d %v %q\n", i, k.inode(), k.bytes)
		}
	}
	fmt.Fprintf(&b, "%d free, %d spare", m.free(), m.spare())
	return b.String()
}

// toldBy is what the volume itself tells.
func toldBy(t *testing.T, v *file.Volume) string {
	t.Helper()
	var b strings.Builder
	for i := 1; i <= v.Plan().Inodes; i++ {
		x, e := v.Inode(i)
		if e != api.OK {
			t.Fatalf("Inode(%d): %d", i, e)
		}
		text, e := v.Read(i, 0, api.MaxFile)
		if x.Kind == api.None {
			if x != (inode.Inode{}) || text != "" || e != api.EINVAL {
				t.Fatalf("inode %d isn't taken: %v, %q, %d", i, x, text, e)
			}
			continue
		}
		if e != api.OK {
			t.Fatalf("Read(%d): %d", i, e)
		}
		fmt.Fprintf(&b, "%d %v %q\n", i, x, text)
	}
	fmt.Fprintf(&b, "%d free, %d spare", v.Free(), v.Spare())
	return b.String()
}

func made(t *testing.T, pages int) *disk.Disk {
	t.Helper()
	d, e := disk.New(pages)
	if e != api.OK {
		t.Fatalf("New(%d): %d", pages, e)
	}
	return d
}

// filled is a disk whose pages have bytes of chance, that last: what Format and the steps don't blank out is seen.
func filled(t *testing.T, pages int) *disk.Disk {
	t.Helper()
	d := made(t, pages)
	c := chance(pages)
	for i := range pages {
		d.Write(i, api.Page(c.bytes(api.PageSize)))
	}
	d.Flush()
	return d
}

func mounted(t *testing.T, d *disk.Disk) *file.Volume {
	t.Helper()
	v, e := file.Mount(d)
	if v == nil || e != api.OK || v.Over() {
		t.Fatalf("Mount: %v, %d", v, e)
	}
	return v
}

// pair is a volume, and its model.
type pair struct {
	d *disk.Disk
	v *file.Volume
	m *model
}

func fresh(t *testing.T, pages, inodes int) *pair {
	t.Helper()
	d := filled(t, pages)
	if e := file.Format(d, inodes); e != api.OK {
		t.Fatalf("Format(%d): %d", inodes, e)
	}
	p := &pair{d, mounted(t, d), formatted(pages, inodes)}
	p.like(t, "fresh")
	return p
}

// call is a call of a step.
type call struct {
	name     string
	i, at, n int
	text     string
	x        inode.Inode
}

func (c call) String() string {
	return fmt.Sprintf("%s(%d, %d, %d, %d bytes, %v)", c.name, c.i, c.at, c.n, len(c.text), c.x)
}

func add(x inode.Inode) call             { return call{name: "New", x: x} }
func change(i int, x inode.Inode) call   { return call{name: "Change", i: i, x: x} }
func release(i int) call                 { return call{name: "Release", i: i} }
func write(i, off int, text string) call { return call{name: "Write", i: i, at: off, text: text} }
func truncate(i, size int) call          { return call{name: "Truncate", i: i, n: size} }
func read(i, off, n int) call            { return call{name: "Read", i: i, at: off, n: n} }
func look(i int) call                    { return call{name: "Inode", i: i} }
func fail(e api.Errno) call              { return call{name: "Fail", n: int(e)} }
func aFile(links int) inode.Inode {
	return inode.Inode{Kind: api.File, Perm: 420, Uid: 7, Links: links}
}
func zeros(n int) string                   { return strings.Repeat("\x00", n) }
func many(letter string, pages int) string { return strings.Repeat(letter, 64*pages) }

// do does the call, and is what it answers.
func (c call) do(s *file.Step) string {
	switch c.name {
	case "New":
		return fmt.Sprint(s.New(c.x))
	case "Change":
		s.Change(c.i, c.x)
	case "Release":
		s.Release(c.i)
	case "Write":
		s.Write(c.i, c.at, c.text)
	case "Truncate":
		s.Truncate(c.i, c.n)
	case "Read":
		return s.Read(c.i, c.at, c.n)
	case "Inode":
		return fmt.Sprint(s.Inode(c.i))
	case "Fail":
		s.Fail(api.Errno(c.n))
	}
	return ""
}

// on is what the model answers.
func (c call) on(m *model) (string, api.Errno) {
	switch c.name {
	case "New":
		i, e := m.add(c.x)
		return fmt.Sprint(i), e
	case "Change":
		return "", m.change(c.i, c.x)
	case "Release":
		return "", m.release(c.i)
	case "Write":
		return "", m.write(c.i, c.at, c.text)
	case "Truncate":
		return "", m.truncate(c.i, c.n)
	case "Read":
		return m.read(c.i, c.at, c.n)
	case "Inode":
		x, e := m.inode(c.i)
		return fmt.Sprint(x), e
	}
	if c.n == 0 {
		return "", api.EINVAL
	}
	return "", api.Errno(c.n)
}

// on is the model behind a step, what its calls answer till one fails, and with what.
func (m *model) on(l []call) (*model, []string, api.Errno) {
	next := m.clone()
	var answers []string
	for _, c := range l {
		a, e := c.on(next)
		if e != api.OK {
			return m, answers, e
		}
		answers = append(answers, a)
	}
	return next, answers, api.OK
}

// do does a step of calls on the volume.
func do(v *file.Volume, l []call) ([]string, api.Errno) {
	var answers []string
	e := v.Do(func(s *file.Step) {
		for _, c := range l {
			answers = append(answers, c.do(s))
		}
	})
	return answers, e
}

// step does a step on both sides, and holds them against each other.
func (p *pair) step(t *testing.T, l ...call) api.Errno {
	t.Helper()
	next, want, wantE := p.m.on(l)
	got, e := do(p.v, l)
	if e != wantE || !slices.Equal(got, want) {
		t.Fatalf("%v: %d and %q, not %d and %q", l, e, got, wantE, want)
	}
	p.m = next
	p.like(t, fmt.Sprint(l))
	return e
}

// must is a step that is done.
func (p *pair) must(t *testing.T, l ...call) {
	t.Helper()
	if e := p.step(t, l...); e != api.OK {
		t.Fatalf("%v: %d", l, e)
	}
}

// refused is a step that fails with that error.
func (p *pair) refused(t *testing.T, want api.Errno, l ...call) {
	t.Helper()
	if e := p.step(t, l...); e != want {
		t.Fatalf("%v: %d, not %d", l, e, want)
	}
}

// like holds all that the volume tells against the model, and its pages against what chapters 7 to 10 say of them.
func (p *pair) like(t *testing.T, what string) {
	t.Helper()
	if got, want := toldBy(t, p.v), p.m.told(); got != want {
		t.Fatalf("%s:\n%.3000s\nnot\n%.3000s", what, got, want)
	}
	if p.v.Over() || p.v.Plan().Pages != p.m.pages || p.v.Plan().Inodes != p.m.inodes {
		t.Fatalf("%s: Over %v, Plan %v", what, p.v.Over(), p.v.Plan())
	}
	sound(t, what, p.v)
}

// sound holds the volume's pages against one another: the bits against what is taken, and what is free against the files' pages and pages of numbers (P11.2).
func sound(t *testing.T, what string, v *file.Volume) {
	t.Helper()
	p := v.Plan()
	inodeBits, dataBits := make([]byte, 64), make([]byte, 64)
	used := 0
	mark := func(bits []byte, i int) {
		if i < 0 || bits[i/8]&(1<<(i%8)) != 0 {
			t.Fatalf("%s: bit %d is none, or there twice", what, i)
		}
		bits[i/8] |= 1 << (i % 8)
	}
	for i := 1; i <= p.Inodes; i++ {
		x, _ := v.Inode(i)
		if x.Kind == api.None {
			continue
		}
		mark(inodeBits, i-1)
		indices, numbers := pagesOf(t, v, x)
		for _, n := range numbers {
			mark(dataBits, n-p.Data())
		}
		for _, n := range indices {
			mark(dataBits, n-p.Data())
		}
		if meta := span.Meta(slices.Collect(maps.Keys(indices))...); meta != len(numbers) {
			t.Fatalf("%s: inode %d has %d pages of numbers, not %d", what, i, len(numbers), meta)
		}
		used += len(indices) + len(numbers)
		behindSize(t, what, v, x, indices)
	}
	if v.Free() != p.Room()-used {
		t.Fatalf("%s: %d are free, not %d", what, v.Free(), p.Room()-used)
	}
	if got := pageOf(t, v, inodeBitsAt); got != api.Page(inodeBits) {
		t.Fatalf("%s: inode bits %v, not %v", what, got, inodeBits)
	}
	if got := pageOf(t, v, dataBitsAt); got != api.Page(dataBits) {
		t.Fatalf("%s: data bits %v, not %v", what, got, dataBits)
	}
}

// behindSize asks that no page lies behind an inode's Size, and that the last one's bytes behind it are 0.
func behindSize(t *testing.T, what string, v *file.Volume, x inode.Inode, indices map[int]int) {
	t.Helper()
	for index, n := range indices {
		if index*64 >= x.Size {
			t.Fatalf("%s: page %d is there, and Size %d", what, index, x.Size)
		}
		if index*64+64 > x.Size {
			if p := pageOf(t, v, n); string(p[x.Size%64:]) != zeros(64-x.Size%64) {
				t.Fatalf("%s: behind Size %d there are %v", what, x.Size, p[x.Size%64:])
			}
		}
	}
}

func pageOf(t *testing.T, v *file.Volume, n int) api.Page {
	t.Helper()
	p, e := v.Page(n)
	if e != api.OK {
		t.Fatalf("Page(%d): %d", n, e)
	}
	return p
}

// pagesOf is which of the disk's pages a file has, by their numbers in the file, and its pages of numbers, all of which have one.
func pagesOf(t *testing.T, v *file.Volume, x inode.Inode) (indices map[int]int, numbers []int) {
	t.Helper()
	indices = map[int]int{}
	for i, n := range x.Direct {
		if n != 0 {
			indices[i] = n
		}
	}
	told := func(at, first int) {
		if at == 0 {
			return
		}
		numbers = append(numbers, at)
		p := pageOf(t, v, at)
		if p == (api.Page{}) {
			t.Fatalf("page %d has no numbers", at)
		}
		for i := range 32 {
			if n := int(binary.BigEndian.Uint16(p[2*i:])); n != 0 {
				indices[first+i] = n
			}
		}
	}
	told(x.Ind, 4)
	if x.Dind != 0 {
		numbers = append(numbers, x.Dind)
		p := pageOf(t, v, x.Dind)
		if p == (api.Page{}) {
			t.Fatalf("page %d has no numbers", x.Dind)
		}
		for i := range 32 {
			told(int(binary.BigEndian.Uint16(p[2*i:])), 36+32*i)
		}
	}
	return indices, numbers
}
