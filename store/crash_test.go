package store_test

import (
	"fmt"
	"slices"
	"testing"

	"narthex/api"
	"narthex/disk"
	"narthex/journal"
	"narthex/store"
)

// The small disk that is crashed in every way: pages, and a region with room for three.
const (
	smallPages = 10
	smallAt    = 2
	smallSize  = 5
	smallRoom  = 3
)

// state is what lasts of a small disk.
type state [smallPages]api.Page

// disk is a disk on which that lasts.
func (s state) disk(t *testing.T) *disk.Disk {
	t.Helper()
	d := made(t, smallPages)
	for i, p := range s {
		d.Write(i, p)
	}
	d.Flush()
	return d
}

func lasting(d *disk.Disk) (s state) {
	for i := range s {
		s[i] = d.Lasts(i)
	}
	return s
}

// others is the pages that aren't the region's.
func (s state) others() state {
	for i := range smallSize {
		s[smallAt+i] = api.Page{}
	}
	return s
}

// started is a disk whose journal goes on from a Seq, with pages of chance, and an older Sync's numbers and pages in the region.
func started(t *testing.T, seq int) state {
	t.Helper()
	c := chance(seq)
	var s state
	for i := range s {
		s[i] = c.page()
	}
	s[smallAt] = quiet(seq)
	d := s.disk(t)
	o, e := store.Open(d, smallAt, smallSize)
	if e != api.OK {
		t.Fatalf("Open: %d", e)
	}
	putAll(t, o, &c, 9, 0, 7)
	if o.Keep() != api.OK || o.Sync() != api.OK {
		t.Fatal("the older Sync")
	}
	return lasting(d)
}

func putAll(t *testing.T, s *store.Store, c *chance, l ...int) {
	t.Helper()
	for _, i := range l {
		if e := s.Put(i, c.page()); e != api.OK {
			t.Fatalf("Put(%d): %d", i, e)
		}
	}
}

// act is a call that does a Sync, and what was done ahead of it since the last one.
type act struct {
	name  string
	kept  [][]int // steps that are in the group
	put   []int   // the step
	sync  func(*store.Store) api.Errno
	group int // behind it, if it goes well
}

func acts() []act {
	sync, keep := (*store.Store).Sync, (*store.Store).Keep
	return []act{
		{"Sync of one page", [][]int{{1}}, nil, sync, 0},
		{"Sync of two pages, with a step beside them", [][]int{{9}, {0}}, []int{1, 8}, sync, 0},
		{"Sync of three pages, one of them put in each step", [][]int{{9, 1}, {1, 7}, {1}}, []int{1}, sync, 0},
		{"Keep of one page beside three", [][]int{{0, 1}, {7}}, []int{8}, keep, 1},
		{"Keep of three pages beside one", [][]int{{9}}, []int{7, 1, 0}, keep, 3},
		{"Keep of pages that are in both, beside another", [][]int{{9, 0, 1}}, []int{0, 8, 1}, keep, 3},
	}
}

// ready is a store on a disk in that state, with the act still to be done.
func (a act) ready(t *testing.T, s state) (*disk.Disk, *store.Store) {
	t.Helper()
	d := s.disk(t)
	o, e := store.Open(d, smallAt, smallSize)
	if e != api.OK {
		t.Fatalf("Open: %d", e)
	}
	c := chance(len(a.name))
	for _, l := range a.kept {
		putAll(t, o, &c, l...)
		if e := o.Keep(); e != api.OK {
			t.Fatalf("Keep: %d", e)
		}
	}
	putAll(t, o, &c, a.put...)
	return d, o
}

// shallBe is the other pages as the act's Sync makes them: those that a store tells once the step is dropped.
func (a act) shallBe(t *testing.T, s state) state {
	t.Helper()
	_, o := a.ready(t, s)
	o.Drop()
	out := s.others()
	for i := range out {
		if p, e := o.Read(i); e == api.OK {
			out[i] = p
		}
	}
	if out == s.others() {
		t.Fatal("nothing is to be synced")
	}
	return out
}

// ways to crash: of one page each beginning, of more all mixtures of a few.
func ways(cached int) (l [][]byte) {
	if cached == 1 {
		for c := range 65 {
			l = append(l, []byte{byte(c)})
		}
		return l
	}
	return mixtures(cached, []byte{0, 1, 40, 64})
}

// mixtures are all lists of that length.
func mixtures(length int, of []byte) [][]byte {
	l := [][]byte{nil}
	for range length {
		var longer [][]byte
		for _, x := range l {
			for _, c := range of {
				longer = append(longer, append(slices.Clone(x), c))
			}
		}
		l = longer
	}
	return l
}

// behind opens a store on what a crash left, and tells what the disk has.
func behind(t *testing.T, what string, s state) state {
	t.Helper()
	d := s.disk(t)
	o, e := store.Open(d, smallAt, smallSize)
	if e != api.OK || o.Step() != 0 || o.Group() != 0 || o.Over() {
		t.Fatalf("%s: Open: %v, %d", what, o, e)
	}
	out := lasting(d).others()
	for i, p := range out {
		if q, e := o.Read(i); e == api.OK && q != p {
			t.Fatalf("%s: page %d is read as %v, and lasts as %v", what, i, q, p)
		}
	}
	if o.Put(8, full(7)) != api.OK || o.Keep() != api.OK || o.Sync() != api.OK || d.Lasts(8) != full(7) {
		t.Fatalf("%s: the store that was opened takes no Sync", what)
	}
	return out
}

// crashes does an act, broken off at each step, and crashed in each way; what is handed in is told what lasts behind it, and whether it was answered OK.
func (a act) crashes(t *testing.T, s state, each func(what string, left state, ok bool)) {
	t.Helper()
	for f := 0; ; f++ {
		run := func(choices []byte) (int, bool) {
			d, o := a.ready(t, s)
			step, group := o.Step(), o.Group()
			d.Fuse(f)
			e := a.sync(o)
			what := fmt.Sprintf("%s, fuse %d, choices %v", a.name, f, choices)
			if e == api.OK && (o.Over() || o.Group() != a.group) || e != api.OK && (e != api.EIO || !o.Over() || o.Step() != step || o.Group() != group) {
				t.Fatalf("%s: %d, Over %v, Step %d, Group %d", what, e, o.Over(), o.Step(), o.Group())
			}
			cached, blown := d.Cached(), d.Down()
			if blown != (e != api.OK) {
				t.Fatalf("%s: %d, and Down %v", what, e, blown)
			}
			d.Crash(choices...)
			each(what, lasting(d), e == api.OK)
			return cached, blown
		}
		cached, blown := run(nil)
		for _, choices := range ways(cached) {
			run(choices)
		}
		if !blown {
			return
		}
	}
}

// reopened opens a store on what a crash left, broken off at each step, and crashed with nothing, all, and beginnings kept: what the disk has behind that is the same.
func reopened(t *testing.T, what string, left, want state) {
	t.Helper()
	for f := 0; ; f++ {
		for _, choices := range [][]byte{nil, {64, 64, 64}, {1, 64, 5}, {33, 0, 64}, {61, 61, 61}} {
			d := left.disk(t)
			d.Fuse(f)
			o, e := store.Open(d, smallAt, smallSize)
			if e == api.OK {
				return
			}
			if o != nil || e != api.EIO {
				t.Fatalf("%s: Open, fuse %d: %v, %d", what, f, o, e)
			}
			d.Crash(choices...)
			if behind(t, what, lasting(d)) != want {
				t.Fatalf("%s: an Open that was broken off, fuse %d, choices %v, leads elsewhere", what, f, choices)
			}
		}
	}
}

// P6.2: Syncs, and Keeps that do one, broken off at each step, with crashes that keep nothing, all, and beginnings of each page, followed by an Open, which is broken off, too. The Seqs are such that bytes carry at the heads of the Sync.
func TestCrashesOfSync(t *testing.T) {
	if journal.Room(smallSize) != smallRoom {
		t.Fatal("another room")
	}
	for _, seq := range []int{0, 0xF9, 0xFA, 0xFB, 0xFFFA, 0xFFFFFB} {
		s := started(t, seq)
		for _, a := range acts() {
			was, shallBe := s.others(), a.shallBe(t, s)
			ends := map[state]state{}
			var back, on int
			a.crashes(t, s, func(what string, left state, ok bool) {
				end, known := ends[left]
				if !known {
					end = behind(t, what, left)
					ends[left] = end
					reopened(t, what, left, end)
				}
				if end != was && end != shallBe || ok && end != shallBe {
					t.Fatalf("%s: neither what was there nor what was synced, or not all that was answered OK", what)
				}
				if end == was {
					back++
				} else {
					on++
				}
			})
			if back == 0 || on == 0 {
				t.Fatalf("%s: %d crashes led back, %d on", a.name, back, on)
			}
		}
	}
}

// P6.2: a crash between the calls of a store that isn't over: what is kept or put is gone, and nothing else.
func TestCrashesBetweenCalls(t *testing.T) {
	s := started(t, 50)
	for _, a := range acts() {
		for _, choices := range [][]byte{nil, {64, 64, 64}, {1, 2, 3}} {
			d, _ := a.ready(t, s)
			d.Crash(choices...)
			if behind(t, a.name, lasting(d)) != s.others() {
				t.Errorf("%s, not done: something of it is there", a.name)
			}
			d, o := a.ready(t, s)
			if e := a.sync(o); e != api.OK {
				t.Fatalf("%s: %d", a.name, e)
			}
			c := chance(2)
			putAll(t, o, &c, 0)
			d.Crash(choices...)
			if behind(t, a.name, lasting(d)) != a.shallBe(t, s) {
				t.Errorf("%s, done: it isn't there", a.name)
			}
		}
	}
}

// life is a disk with its stores, one behind the other, and what the answers tell of it.
type life struct {
	t           *testing.T
	c           chance
	d           *disk.Disk
	at, size    int
	s           *store.Store
	step, group map[int]api.Page
	done        []api.Page // behind the last Sync that was done
	broken      []api.Page // as the one that was broken off would have made it; nil: none was
	seen        map[string]int
}

func newLife(t *testing.T, seed int) *life {
	c := chance(seed + 31)
	n := 6 + c.below(60)
	size := 3 + c.below(min(n-4, 40))
	l := &life{t: t, c: c, d: made(t, n), at: c.below(n - size + 1), size: size, seen: map[string]int{}}
	l.done = l.there()
	return l
}

// there is what lasts, but for the region.
func (l *life) there() []api.Page {
	out := make([]api.Page, l.d.Pages())
	for i := range out {
		if i < l.at || i >= l.at+l.size {
			out[i] = l.d.Lasts(i)
		}
	}
	return out
}

// open opens a store, behind a crash if the disk is down, and holds what is there against what may be.
func (l *life) open() {
	if l.d.Down() {
		l.crash()
		l.d.Fuse(l.c.below(40) - 20)
	}
	l.s = nil
	s, e := store.Open(l.d, l.at, l.size)
	if e != api.OK {
		if !l.d.Down() {
			l.t.Fatalf("Open: %d", e)
		}
		l.seen["an Open broken off"]++
		return
	}
	now := l.there()
	switch {
	case slices.Equal(now, l.done):
		l.seen["led back"]++
	case l.broken != nil && slices.Equal(now, l.broken):
		l.seen["led on"]++
	default:
		l.t.Fatal("neither the last Sync that was done nor the one that was broken off")
	}
	l.s, l.step, l.group, l.done, l.broken = s, map[int]api.Page{}, map[int]api.Page{}, now, nil
}

func (l *life) crash() {
	n := l.c.below(2 * l.d.Pages())
	switch l.c.below(4) {
	case 0:
		l.d.Crash()
	case 1:
		l.d.Crash(slices.Repeat([]byte{64}, n)...)
	case 2:
		l.d.Crash(slices.Repeat([]byte{byte(l.c.below(65))}, n)...)
	default:
		l.d.Crash(l.c.bytes(n)...)
	}
}

// synced is what the disk has behind a Sync of the group.
func (l *life) synced() []api.Page {
	out := slices.Clone(l.done)
	for i, p := range l.group {
		out[i] = p
	}
	return out
}

// sync notes the answer of a call that did a Sync.
func (l *life) sync(e api.Errno) bool {
	if e != api.OK {
		if e != api.EIO || !l.d.Down() || !l.s.Over() {
			l.t.Fatalf("Sync: %d", e)
		}
		l.broken = l.synced()
		return false
	}
	l.done = l.synced()
	clear(l.group)
	if !slices.Equal(l.there(), l.done) || l.d.Cached() != 0 {
		l.t.Fatal("a Sync was answered OK, and isn't there")
	}
	return true
}

func (l *life) keep() {
	both := len(l.group)
	for i := range l.step {
		if _, ok := l.group[i]; !ok {
			both++
		}
	}
	e := l.s.Keep()
	if both > journal.Room(l.size) {
		l.seen["Keep's Sync"]++
		if !l.sync(e) {
			l.seen["Keep's Sync broken off"]++
			return
		}
	} else if e != api.OK {
		l.t.Fatalf("Keep: %d", e)
	}
	for i, p := range l.step {
		l.group[i] = p
	}
	clear(l.step)
}

func (l *life) put() {
	i, p := l.c.below(l.d.Pages()), l.c.page()
	if l.s.Put(i, p) == api.OK {
		l.step[i] = p
	}
}

func (l *life) call() {
	switch k := l.c.below(24); {
	case l.s.Over():
		l.open()
	case k < 14:
		l.put()
	case k < 18:
		l.keep()
	case k < 19:
		l.s.Drop()
		clear(l.step)
	case k < 21:
		if len(l.group) > 0 || !l.d.Down() {
			l.sync(l.s.Sync())
		}
	case k < 22:
		l.crash()
		l.open()
	default:
		l.d.Fuse(l.c.below(3*l.size + 10))
	}
}

// P6.2: long lives of a disk, with crashes at any time; told by the answers alone.
func TestLongLives(t *testing.T) {
	all := map[string]int{}
	for seed := range 250 {
		l := newLife(t, seed)
		for range 800 {
			l.call()
		}
		for name, n := range l.seen {
			all[name] += n
		}
	}
	for _, name := range []string{"led back", "led on", "an Open broken off", "Keep's Sync", "Keep's Sync broken off"} {
		if all[name] < 100 {
			t.Errorf("%s: only %d times", name, all[name])
		}
	}
}
