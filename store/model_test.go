package store_test

import (
	"encoding/binary"
	"fmt"
	"testing"

	"narthex/api"
	"narthex/disk"
	"narthex/journal"
	"narthex/store"
)

// chance is numbers that look like chance, the same in each run.
type chance uint32

func (c *chance) below(n int) int {
	*c = *c*1664525 + 1013904223
	return int(*c>>8) % n
}

func (c *chance) bytes(n int) []byte {
	l := make([]byte, n)
	for i := range l {
		l[i] = byte(c.below(256))
	}
	return l
}

func (c *chance) page() (p api.Page) {
	copy(p[:], c.bytes(api.PageSize))
	return p
}

// shuffled is the numbers in another order.
func (c *chance) shuffled(l []int) []int {
	out := make([]int, 0, len(l))
	for _, x := range l {
		k := c.below(len(out) + 1)
		out = append(out, x)
		out[k], out[len(out)-1] = out[len(out)-1], out[k]
	}
	return out
}

func full(b byte) (p api.Page) {
	for i := range p {
		p[i] = b
	}
	return p
}

// The greatest Seq that there is.
const top = 1<<32 - 1

// headPage is a head's page, as chapter 4 says it.
func headPage(seq int, live bool, count int, sum uint32) (p api.Page) {
	binary.BigEndian.PutUint32(p[0:], uint32(seq))
	if live {
		p[4] = 1
	}
	binary.BigEndian.PutUint16(p[5:], uint16(count))
	binary.BigEndian.PutUint32(p[7:], sum)
	binary.BigEndian.PutUint32(p[60:], uint32(seq))
	return p
}

func quiet(seq int) api.Page { return headPage(seq, false, 0, 0) }

// sumOf is layer 1's sum: b counts each byte once for itself and once for each byte behind it.
func sumOf(l []api.Page) uint32 {
	var a, b uint64
	for i, p := range l {
		for k, c := range p {
			a += uint64(c)
			b += uint64(c) * uint64(len(l)*64-i*64-k)
		}
	}
	return uint32(b%65535<<16 | a%65535)
}

// laid is the pages behind the head of up to 32 changes: their numbers, and then their pages.
func laid(l []journal.Change) []api.Page {
	out := make([]api.Page, 1, 1+len(l))
	for i, c := range l {
		binary.BigEndian.PutUint16(out[0][2*i:], uint16(c.At))
		out = append(out, c.Page)
	}
	return out
}

// pages is what a step or a group has, each at its number: another way to keep them than the program's, which rises by itself.
type pages [api.MaxPages]*api.Page

func (l *pages) count() (n int) {
	for _, p := range l {
		if p != nil {
			n++
		}
	}
	return n
}

func (l *pages) changes() (out []journal.Change) {
	for i, p := range l {
		if p != nil {
			out = append(out, journal.Change{At: i, Page: *p})
		}
	}
	return out
}

func (l pages) with(more *pages) pages {
	for i, p := range more {
		if p != nil {
			l[i] = p
		}
	}
	return l
}

// model tells what a store does, on a disk of its own.
type model struct {
	d           *disk.Disk
	j           *journal.Journal
	at, size    int
	step, group pages
	over        bool
}

func modelOpen(d *disk.Disk, at, size int) (*model, api.Errno) {
	j, _, e := journal.Open(d, at, size)
	if e != api.OK {
		return nil, e
	}
	return &model{d: d, j: j, at: at, size: size}, api.OK
}

func (m *model) refuses(i int) api.Errno {
	switch {
	case m == nil || m.over:
		return api.EIO
	case i < 0, i >= m.d.Pages(), i >= m.at && i <= m.at+m.size-1:
		return api.EINVAL
	}
	return api.OK
}

func (m *model) read(i int) (api.Page, api.Errno) {
	if e := m.refuses(i); e != api.OK {
		return api.Page{}, e
	}
	for _, l := range []*pages{&m.step, &m.group} {
		if l[i] != nil {
			return *l[i], api.OK
		}
	}
	if m.d.Down() {
		return api.Page{}, api.EIO
	}
	return m.d.Read(i)
}

func (m *model) put(i int, p api.Page) api.Errno {
	if e := m.refuses(i); e != api.OK {
		return e
	}
	next := m.step
	next[i] = &p
	if next.count() > journal.Room(m.size) {
		return api.ENOSPC
	}
	m.step = next
	return api.OK
}

func (m *model) keep() api.Errno {
	if m == nil || m.over {
		return api.EIO
	}
	both := m.group.with(&m.step)
	if both.count() <= journal.Room(m.size) {
		m.group, m.step = both, pages{}
		return api.OK
	}
	e := m.sync()
	if e == api.OK {
		m.group, m.step = m.step, pages{}
	}
	return e
}

func (m *model) drop() {
	if m != nil {
		m.step = pages{}
	}
}

func (m *model) sync() api.Errno {
	if m == nil || m.over {
		return api.EIO
	}
	if e := m.j.Commit(m.group.changes()...); e != api.OK {
		m.over = true
		return e
	}
	m.group = pages{}
	return api.OK
}

func made(t *testing.T, pages int) *disk.Disk {
	t.Helper()
	d, e := disk.New(pages)
	if e != api.OK {
		t.Fatalf("New(%d): %d", pages, e)
	}
	return d
}

// pair is a disk for the program, and one for the model.
type pair struct {
	d, twin *disk.Disk
}

// filled is two disks, each page with bytes of its own, that last.
func filled(t *testing.T, pages int) pair {
	t.Helper()
	p := pair{made(t, pages), made(t, pages)}
	c := chance(pages)
	for i := range pages {
		p.set(i, c.page())
	}
	return p
}

func (p pair) both(f func(*disk.Disk)) {
	f(p.d)
	f(p.twin)
}

// set lets a page last.
func (p pair) set(i int, q api.Page) {
	p.both(func(d *disk.Disk) {
		d.Write(i, q)
		d.Flush()
	})
}

// lay lets changes last as if a Commit of them had been broken off behind its Live head.
func (p pair) lay(at, seq int, l []journal.Change) {
	for i, q := range laid(l) {
		p.set(at+1+i, q)
	}
	p.set(at, headPage(seq, true, len(l), sumOf(laid(l))))
}

func (p pair) fuse(n int) { p.both(func(d *disk.Disk) { d.Fuse(n) }) }

func (p pair) crash(choices ...byte) { p.both(func(d *disk.Disk) { d.Crash(choices...) }) }

// down lets both disks be down, with nothing of it in the cache.
func (p pair) down() {
	p.both(func(d *disk.Disk) {
		d.Fuse(0)
		d.Flush()
	})
}

// same asks whether both disks are alike, in the cache and in what lasts.
func (p pair) same(t *testing.T, what string) {
	t.Helper()
	if p.d.Cached() != p.twin.Cached() || p.d.Down() != p.twin.Down() {
		t.Fatalf("%s: Cached %d, Down %v, not %d, %v", what, p.d.Cached(), p.d.Down(), p.twin.Cached(), p.twin.Down())
	}
	for i := range p.twin.Pages() {
		got, _ := p.d.Read(i)
		if want, _ := p.twin.Read(i); got != want {
			t.Fatalf("%s: the disk's page %d is %v, not %v", what, i, got, want)
		}
		if got, want := p.d.Lasts(i), p.twin.Lasts(i); got != want {
			t.Fatalf("%s: page %d lasts as %v, not %v", what, i, got, want)
		}
	}
}

// sides is a store, and its model.
type sides struct {
	pair
	s *store.Store
	m *model
}

// open opens both sides, and holds them against each other.
func (p pair) open(t *testing.T, what string, at, size int) (sides, api.Errno) {
	t.Helper()
	s, e := store.Open(p.d, at, size)
	m, want := modelOpen(p.twin, at, size)
	if e != want || (s == nil) != (m == nil) {
		t.Fatalf("%s: Open(%d, %d): %v and %d, not %v and %d", what, at, size, s, e, m, want)
	}
	b := sides{p, s, m}
	b.like(t, what)
	return b, e
}

// opened is an Open that must go well.
func (p pair) opened(t *testing.T, at, size int) sides {
	t.Helper()
	b, e := p.open(t, "opened", at, size)
	if e != api.OK {
		t.Fatalf("Open(%d, %d): %d", at, size, e)
	}
	return b
}

// like holds all that is told of a store, and its disk, against the model.
func (b sides) like(t *testing.T, what string) {
	t.Helper()
	step, group, over := 0, 0, true
	if b.m != nil {
		step, group, over = b.m.step.count(), b.m.group.count(), b.m.over
	}
	b.told(t, what, step, group, over)
	for i := -2; i < b.twin.Pages()+2; i++ {
		p, e := b.s.Read(i)
		if want, wantE := b.m.read(i); p != want || e != wantE {
			t.Fatalf("%s: Read(%d): %v and %d, not %v and %d", what, i, p, e, want, wantE)
		}
	}
	b.same(t, what)
}

// told asks what a store tells without an error.
func (b sides) told(t *testing.T, what string, step, group int, over bool) {
	t.Helper()
	if b.s.Step() != step || b.s.Group() != group || b.s.Over() != over {
		t.Fatalf("%s: Step %d, Group %d, Over %v, not %d, %d, %v", what, b.s.Step(), b.s.Group(), b.s.Over(), step, group, over)
	}
}

func (b sides) answered(t *testing.T, what string, e, want api.Errno) api.Errno {
	t.Helper()
	if e != want {
		t.Fatalf("%s: %d, not %d", what, e, want)
	}
	b.like(t, what)
	return e
}

func (b sides) put(t *testing.T, i int, p api.Page) api.Errno {
	t.Helper()
	return b.answered(t, fmt.Sprintf("Put(%d)", i), b.s.Put(i, p), b.m.put(i, p))
}

func (b sides) keep(t *testing.T) api.Errno {
	t.Helper()
	return b.answered(t, "Keep", b.s.Keep(), b.m.keep())
}

func (b sides) sync(t *testing.T) api.Errno {
	t.Helper()
	return b.answered(t, "Sync", b.s.Sync(), b.m.sync())
}

func (b sides) drop(t *testing.T) {
	t.Helper()
	b.s.Drop()
	b.m.drop()
	b.like(t, "Drop")
}

// puts puts pages of one byte each, without asking the rest of the store each time.
func (b sides) puts(t *testing.T, value byte, l ...int) {
	t.Helper()
	for _, i := range l {
		if e, want := b.s.Put(i, full(value)), b.m.put(i, full(value)); e != api.OK || want != api.OK {
			t.Fatalf("Put(%d): %d, not %d", i, e, want)
		}
	}
	b.like(t, fmt.Sprint("Puts of ", len(l)))
}

// kept puts pages and keeps them.
func (b sides) kept(t *testing.T, value byte, l ...int) {
	t.Helper()
	b.puts(t, value, l...)
	b.must(t, "Keep", b.keep(t))
}

func (b sides) must(t *testing.T, what string, e api.Errno) {
	t.Helper()
	if e != api.OK {
		t.Fatalf("%s: %d", what, e)
	}
}

// reads asks for one page.
func (b sides) reads(t *testing.T, i int, want api.Page) {
	t.Helper()
	if p, e := b.s.Read(i); p != want || e != api.OK {
		t.Fatalf("Read(%d): %v and %d, not %v", i, p, e, want)
	}
}

// lasts asks what a page has without the cache.
func (b sides) lasts(t *testing.T, i int, want api.Page) {
	t.Helper()
	if p := b.d.Lasts(i); p != want {
		t.Fatalf("page %d lasts as %v, not %v", i, p, want)
	}
}

// outside is n numbers, rising, of pages that aren't in a region.
func outside(at, size, n int) (l []int) {
	for i := 0; len(l) < n; i++ {
		if i < at || i >= at+size {
			l = append(l, i)
		}
	}
	return l
}
