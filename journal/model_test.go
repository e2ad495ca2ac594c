package journal_test

import (
	"encoding/binary"
	"fmt"
	"testing"

	"narthex/api"
	"narthex/disk"
	"narthex/journal"
)

// chance is numbers that look like chance, the same in each run.
type chance uint32

func (c *chance) below(n int) int {
	*c = *c*1664525 + 1013904223
	return int(*c>>8) % n
}

func (c *chance) bytes(n int) []byte {
	l := make([]byte, n)
	for i := range l {
		l[i] = byte(c.below(256))
	}
	return l
}

func (c *chance) page() (p api.Page) {
	copy(p[:], c.bytes(api.PageSize))
	return p
}

func full(b byte) (p api.Page) {
	for i := range p {
		p[i] = b
	}
	return p
}

// The greatest Seq that there is.
const top = 1<<32 - 1

// headPage is a head's page, whether it is right or not, as chapter 4 says it.
func headPage(seq int, live bool, count int, sum uint32) (p api.Page) {
	binary.BigEndian.PutUint32(p[0:], uint32(seq))
	if live {
		p[4] = 1
	}
	binary.BigEndian.PutUint16(p[5:], uint16(count))
	binary.BigEndian.PutUint32(p[7:], sum)
	binary.BigEndian.PutUint32(p[60:], uint32(seq))
	return p
}

func quiet(seq int) api.Page { return headPage(seq, false, 0, 0) }

// sumOf works layer 1's sum out another way than it does: b counts each byte once for itself and once for each byte behind it.
func sumOf(s []byte) uint32 {
	var a, b uint64
	for i, c := range s {
		a += uint64(c)
		b += uint64(c) * uint64(len(s)-i)
	}
	return uint32(b%65535<<16 | a%65535)
}

// roomOf seeks the greatest number of changes that a region holds.
func roomOf(size int) int {
	for n := 512; n > 0; n-- {
		if 1+(n+31)/32+n <= size {
			return n
		}
	}
	return 0
}

// laidBytes are the bytes behind the head: numbers, filled up, and pages.
func laidBytes(l []journal.Change) []byte {
	var b []byte
	for _, c := range l {
		b = binary.BigEndian.AppendUint16(b, uint16(c.At))
	}
	for len(b)%64 != 0 {
		b = append(b, 0)
	}
	for _, c := range l {
		b = append(b, c.Page[:]...)
	}
	return b
}

// livePage is the head of changes that are laid down.
func livePage(seq int, l []journal.Change) api.Page {
	return headPage(seq, true, len(l), sumOf(laidBytes(l)))
}

// step is a Write, or a Flush, which is at -1.
type step struct {
	at   int
	page api.Page
}

var flush = step{at: -1}

// do does steps, till one is refused.
func do(d *disk.Disk, l []step) bool {
	for _, s := range l {
		if s.at < 0 && d.Flush() != api.OK || s.at >= 0 && d.Write(s.at, s.page) != api.OK {
			return false
		}
	}
	return true
}

func laySteps(at int, l []journal.Change) (out []step) {
	b := laidBytes(l)
	for i := 0; i < len(b); i += 64 {
		out = append(out, step{at + 1 + i/64, api.Page(b[i : i+64])})
	}
	return append(out, flush)
}

func changeSteps(l []journal.Change) (out []step) {
	for _, c := range l {
		out = append(out, step{c.At, c.Page})
	}
	return append(out, flush)
}

// headSteps are none, and false, of a Seq that is too great.
func headSteps(at, seq int, p api.Page) ([]step, bool) {
	if seq > top {
		return nil, false
	}
	return []step{{at, p}, flush}, true
}

// model tells what a journal does another way than the program: as a list of steps, which are done on another disk.
type model struct {
	d        *disk.Disk
	at, size int
	seq      int
	over     bool
}

func modelOpen(d *disk.Disk, at, size int) (*model, int, api.Errno) {
	if d == nil || d.Down() {
		return nil, 0, api.EIO
	}
	if roomOf(size) == 0 || size > 512 || at < 0 || at > 512 || at+size > d.Pages() {
		return nil, 0, api.EINVAL
	}
	m := &model{d: d, at: at, size: size}
	l, n, ok := m.opening()
	if !do(d, l) || !ok {
		return nil, 0, api.EIO
	}
	return m, n, api.OK
}

func (m *model) read(i int) api.Page {
	p, e := m.d.Read(i)
	if e != api.OK {
		panic(fmt.Sprintf("Read(%d) of a disk that isn't down: %d", i, e))
	}
	return p
}

// opening is the steps of an Open, how many changes are made, and whether it goes well if all steps do.
func (m *model) opening() ([]step, int, bool) {
	p := m.read(m.at)
	front, back := int(binary.BigEndian.Uint32(p[0:])), int(binary.BigEndian.Uint32(p[60:]))
	count, sum := int(binary.BigEndian.Uint16(p[5:])), binary.BigEndian.Uint32(p[7:])
	if count < 1 || count > 512 || p != headPage(front, true, count, sum) {
		m.seq = max(front, back) + 1 // of a whole page both are its Seq
		l, ok := headSteps(m.at, m.seq, quiet(m.seq))
		return l, 0, ok
	}
	if count > roomOf(m.size) {
		return nil, 0, false
	}
	var b []byte
	lists := (count + 31) / 32
	for i := range lists + count {
		p := m.read(m.at + 1 + i)
		b = append(b, p[:]...)
	}
	if sumOf(b) != sum {
		return nil, 0, false
	}
	var l []journal.Change
	for i := range count {
		n := int(b[2*i])*256 + int(b[2*i+1])
		if !m.other(n) {
			return nil, 0, false
		}
		l = append(l, journal.Change{At: n, Page: api.Page(b[64*(lists+i) : 64*(lists+i+1)])})
	}
	m.seq = front + 1
	last, ok := headSteps(m.at, m.seq, quiet(m.seq))
	return append(changeSteps(l), last...), count, ok
}

func (m *model) other(i int) bool {
	return i >= 0 && i < m.d.Pages() && !(m.at <= i && i < m.at+m.size)
}

func (m *model) commit(l []journal.Change) api.Errno {
	if m == nil || m.over {
		return api.EIO
	}
	for i, c := range l {
		if !m.other(c.At) {
			return api.EINVAL
		}
		for _, b := range l[:i] {
			if b.At == c.At {
				return api.EINVAL
			}
		}
	}
	if len(l) > roomOf(m.size) {
		return api.ENOSPC
	}
	if len(l) == 0 {
		return api.OK
	}
	steps, ok := m.committing(l)
	m.seq += 2
	if !do(m.d, steps) || !ok {
		m.over = true
		return api.EIO
	}
	return api.OK
}

// committing is the steps of a Commit, and whether it goes well if all of them do.
func (m *model) committing(l []journal.Change) ([]step, bool) {
	out := laySteps(m.at, l)
	more, ok := headSteps(m.at, m.seq+1, livePage(m.seq+1, l))
	if !ok {
		return out, false
	}
	out = append(append(out, more...), changeSteps(l)...)
	more, ok = headSteps(m.at, m.seq+2, quiet(m.seq+2))
	return append(out, more...), ok
}

func made(t *testing.T, pages int) *disk.Disk {
	t.Helper()
	d, e := disk.New(pages)
	if e != api.OK {
		t.Fatalf("New(%d): %d", pages, e)
	}
	return d
}

// pair is a disk for the program, and one for the model.
type pair struct {
	d, twin *disk.Disk
}

// filled is two disks, each page with bytes of its own, that last.
func filled(t *testing.T, pages int) pair {
	t.Helper()
	p := pair{made(t, pages), made(t, pages)}
	c := chance(pages)
	for i := range pages {
		p.set(i, c.page())
	}
	return p
}

func (p pair) both(f func(*disk.Disk)) {
	f(p.d)
	f(p.twin)
}

// set lets a page last.
func (p pair) set(i int, q api.Page) {
	p.both(func(d *disk.Disk) {
		d.Write(i, q)
		d.Flush()
	})
}

// lay lets changes last as if they had been laid down, without a head.
func (p pair) lay(at int, l []journal.Change) {
	p.both(func(d *disk.Disk) { do(d, laySteps(at, l)) })
}

func (p pair) fuse(n int) { p.both(func(d *disk.Disk) { d.Fuse(n) }) }

func (p pair) crash(choices ...byte) { p.both(func(d *disk.Disk) { d.Crash(choices...) }) }

// unlike tells what differs between both disks; "": nothing.
func (p pair) unlike() string {
	if p.d.Pages() != p.twin.Pages() || p.d.Cached() != p.twin.Cached() || p.d.Down() != p.twin.Down() {
		return fmt.Sprintf("Pages %d, Cached %d, Down %v, not %d, %d, %v", p.d.Pages(), p.d.Cached(), p.d.Down(), p.twin.Pages(), p.twin.Cached(), p.twin.Down())
	}
	for i := range p.twin.Pages() {
		got, _ := p.d.Read(i)
		want, _ := p.twin.Read(i)
		if got != want {
			return fmt.Sprintf("page %d is %v, not %v", i, got, want)
		}
		if got, want := p.d.Lasts(i), p.twin.Lasts(i); got != want {
			return fmt.Sprintf("page %d lasts as %v, not %v", i, got, want)
		}
	}
	return ""
}

func (p pair) same(t *testing.T, what string) {
	t.Helper()
	if s := p.unlike(); s != "" {
		t.Fatalf("%s: %s", what, s)
	}
}

// both sides of a journal.
type sides struct {
	pair
	j *journal.Journal
	m *model
}

// open opens both sides, and holds them against each other.
func (p pair) open(t *testing.T, what string, at, size int) (sides, int, api.Errno) {
	t.Helper()
	j, n, e := journal.Open(p.d, at, size)
	m, wantN, wantE := modelOpen(p.twin, at, size)
	if n != wantN || e != wantE || (j == nil) != (m == nil) {
		t.Fatalf("%s: Open(%d, %d): %v, %d and %d, not %v, %d and %d", what, at, size, j, n, e, m, wantN, wantE)
	}
	p.same(t, what)
	s := sides{p, j, m}
	s.told(t, what)
	return s, n, e
}

// opened is an Open that must go well.
func (p pair) opened(t *testing.T, what string, at, size int) sides {
	t.Helper()
	s, _, e := p.open(t, what, at, size)
	if e != api.OK {
		t.Fatalf("%s: Open(%d, %d): %d", what, at, size, e)
	}
	return s
}

// told asks what a journal tells.
func (s sides) told(t *testing.T, what string) {
	t.Helper()
	room, over := 0, true
	if s.m != nil {
		room, over = roomOf(s.m.size), s.m.over
	}
	if s.j.Room() != room || s.j.Over() != over {
		t.Fatalf("%s: Room %d, Over %v, not %d, %v", what, s.j.Room(), s.j.Over(), room, over)
	}
}

// commit commits on both sides, and holds them against each other.
func (s sides) commit(t *testing.T, what string, l ...journal.Change) api.Errno {
	t.Helper()
	e, want := s.j.Commit(l...), s.m.commit(l)
	if e != want {
		t.Fatalf("%s: Commit of %d changes: %d, not %d", what, len(l), e, want)
	}
	s.same(t, what)
	s.told(t, what)
	return e
}

// changed is n changes of pages that aren't in a region, falling, each with bytes of its own.
func (c *chance) changed(pages, at, size, n int) (l []journal.Change) {
	for i := pages - 1; i >= 0 && len(l) < n; i-- {
		if i < at || i >= at+size {
			l = append(l, journal.Change{At: i, Page: c.page()})
		}
	}
	return l
}
