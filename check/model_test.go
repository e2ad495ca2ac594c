package check_test

import (
	"bytes"
	"encoding/binary"
	"slices"

	"narthex/api"
	"narthex/check"
	"narthex/file"
)

// link is an entry, without its name.
type link struct{ dir, to int }

// model is what a volume's bytes are, read without any of the layers that lie on it.
type model struct {
	content       []api.Page
	pages, inodes int
	told          map[check.Problem]bool
	used          map[int]int
	entries       []link
	come          map[int]bool
}

// modelOf is the problems that the model finds.
func modelOf(v *file.Volume) []check.Problem {
	m := &model{nil, v.Plan().Pages, v.Plan().Inodes, map[check.Problem]bool{}, map[int]int{}, nil, map[int]bool{}}
	for at := range m.pages {
		p, _ := v.Page(at)
		m.content = append(m.content, p)
	}
	for i := 1; i <= m.inodes; i++ {
		m.read(i)
	}
	for at := m.data(); at < m.pages; at++ {
		marked := m.bit(dataBitsAt, at-m.data())
		m.when(m.used[at] > 1, ofPage(check.Twice, at))
		m.when(m.used[at] > 0 && !marked, ofPage(check.Unmarked, at))
		m.when(m.used[at] == 0 && marked, ofPage(check.Lost, at))
	}
	m.come[root] = m.kind(root) != 0
	for range m.inodes { // none is deeper
		for _, l := range m.entries {
			if m.come[l.dir] && m.kind(l.to) != 0 {
				m.come[l.to] = true
			}
		}
	}
	for i := 1; i <= m.inodes; i++ {
		m.judge(i)
	}
	var all []check.Problem
	for p := range m.told {
		all = append(all, p)
	}
	slices.SortFunc(all, func(a, b check.Problem) int {
		return (a.Kind-b.Kind)<<40 + (a.Ino-b.Ino)<<20 + a.N - b.N
	})
	return all
}

func (m *model) when(is bool, p check.Problem) {
	if is {
		m.told[p] = true
	}
}

func (m *model) data() int { return tableAt + (m.inodes+1)/2 }

func (m *model) bit(at, i int) bool {
	return m.content[at][i/8]>>(i%8)&1 == 1
}

// half is an inode's bytes; zeros, where there is none.
func (m *model) half(i int) []byte {
	if i < 1 || i > m.inodes {
		return make([]byte, 32)
	}
	return m.content[tableAt+(i-1)/2][(i-1)%2*32:][:32]
}

func short(b []byte, at int) int { return int(binary.BigEndian.Uint16(b[at:])) }

func (m *model) kind(i int) int  { return int(m.half(i)[0]) }
func (m *model) links(i int) int { return short(m.half(i), 6) }
func (m *model) size(i int) int  { return int(binary.BigEndian.Uint32(m.half(i)[8:])) }

func (m *model) isData(n int) bool { return n >= m.data() && n < m.pages }

// right tells whether an inode is right.
func (m *model) right(i int) bool {
	h := m.half(i)
	if m.kind(i) == 0 {
		return bytes.Equal(h[2:24], make([]byte, 22))
	}
	for at := 12; at < 24; at += 2 {
		if n := short(h, at); n != 0 && !m.isData(n) {
			return false
		}
	}
	return m.kind(i) <= 3 && short(h, 2) <= 511 && m.links(i) <= 40 && m.size(i) <= 67840
}

// number is a number of a page of numbers, if that is one: else 0, and whether what leads to it is spoilt.
func (m *model) number(at, k int) (int, bool) {
	if at == 0 {
		return 0, true
	}
	if !m.isData(at) {
		return 0, false
	}
	return short(m.content[at][:], 2*k), true
}

// page is the number of a file's page, and whether one can tell.
func (m *model) page(i, index int) (int, bool) {
	h := m.half(i)
	switch {
	case index < 4:
		return short(h, 12+2*index), true
	case index < 36:
		return m.number(short(h, 20), index-4)
	}
	inner, ok := m.number(short(h, 22), (index-36)/32)
	if !ok {
		return 0, false
	}
	return m.number(inner, (index-36)%32)
}

// read looks at an inode by itself.
func (m *model) read(i int) {
	m.when((m.kind(i) != 0) != m.bit(inodeBitsAt, i-1), ofInode(check.Bits, i))
	m.when(!m.right(i), ofInode(check.Wrong, i))
	if m.kind(i) == 2 {
		m.readDir(i)
	}
	if m.kind(i) == 0 || !m.right(i) {
		return
	}
	for index := range 1060 {
		if n, _ := m.page(i, index); n != 0 {
			m.used[n]++
			m.when(index*64 >= m.size(i), of(check.Beyond, i, n))
		}
	}
	h := m.half(i)
	m.used[short(h, 20)]++
	m.used[short(h, 22)]++
	for k := range 32 {
		n, _ := m.number(short(h, 22), k)
		m.used[n]++
	}
}

// readDir keeps a directory's entries, or tells that it has Garbage.
func (m *model) readDir(i int) {
	var l []link
	bad := m.size(i)%64 != 0
	for index := range min(m.size(i), 67840) / 64 {
		n, ok := m.page(i, index)
		if !ok || n != 0 && !m.isData(n) {
			bad = true
			continue
		}
		if n == 0 {
			continue
		}
		for k := range 4 {
			b := m.content[n][16*k:][:16]
			if bytes.Equal(b, make([]byte, 16)) {
				continue
			}
			l = append(l, link{i, short(b, 0)})
			bad = bad || !isEntry(b)
		}
	}
	m.when(bad, ofInode(check.Garbage, i))
	if !bad {
		m.entries = append(m.entries, l...)
	}
}

func isEntry(b []byte) bool {
	n := int(b[2])
	if short(b, 0) == 0 || n < 1 || n > 13 || !bytes.Equal(b[3+n:], make([]byte, 13-n)) {
		return false
	}
	name := string(b[3 : 3+n])
	return name != "." && name != ".." && bytes.IndexByte(b[3:3+n], 0) < 0 && bytes.IndexByte(b[3:3+n], '/') < 0
}

// judge looks at what entries lead to an inode, and from it.
func (m *model) judge(i int) {
	led, dirs := 0, 0
	for _, l := range m.entries {
		if l.to == i {
			led++
		}
		if l.dir == i && m.kind(l.to) == 2 {
			dirs++
		}
		m.when(l.dir == i && m.kind(l.to) == 0, of(check.Dangling, i, l.to))
	}
	ought := led
	if m.kind(i) == 2 {
		ought = 2 + dirs
		m.when(led > 1 || i == root && led > 0, ofInode(check.Doubled, i))
	}
	m.when(m.come[i] && m.links(i) != ought, of(check.Links, i, ought))
	m.when(!m.come[i] && m.kind(i) != 0 && m.links(i) > 0, ofInode(check.Orphan, i))
}
