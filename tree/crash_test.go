package tree_test

import (
	"fmt"
	"testing"

	"narthex/api"
	"narthex/disk"
	"narthex/tree"
)

// lasting is what lasts of all pages.
func lasting(d *disk.Disk) []api.Page {
	l := make([]api.Page, d.Pages())
	for i := range l {
		l[i] = d.Lasts(i)
	}
	return l
}

// onDisk is a disk on which these pages last.
func onDisk(t *testing.T, l []api.Page) *disk.Disk {
	t.Helper()
	d, e := disk.New(len(l))
	if e != api.OK {
		t.Fatalf("New: %d", e)
	}
	for i, p := range l {
		d.Write(i, p)
	}
	d.Flush()
	return d
}

// every is the same choice for each page.
func every(choice byte) []byte {
	l := make([]byte, api.MaxPages)
	for i := range l {
		l[i] = choice
	}
	return l
}

// script is acts, and how the tree is ahead of each, and behind the last.
type script struct {
	acts   []call
	states []*model
}

// newScript is acts of chance, of which few fail, with a Sync now and then.
func newScript(seed, pages, inodes, length int) *script {
	c := chance(seed * 31)
	m := formatted(pages, inodes)
	s := &script{states: []*model{m}}
	for len(s.acts) < length {
		a := someCall(&c, m, 8)
		switch k := c.below(60); {
		case seed%2 == 0 && k < 5, k < 1:
			a = sync()
		case seed%2 == 1 && k < 20: // so many bytes that they don't wait for a Sync
			a = put(some(&c, m, api.File), 64*c.below(60), someText(&c, 512))
		}
		next, want := m.on(a)
		if want.e != api.OK && c.below(8) > 0 {
			continue
		}
		m = next
		s.acts, s.states = append(s.acts, a), append(s.states, m)
	}
	return s
}

// run does the acts till the tree is over, and tells behind how many acts the last Sync was that was answered OK, and how many were done.
func (s *script) run(t *testing.T, x *tree.Tree) (synced, done int) {
	t.Helper()
	for k, a := range s.acts {
		got := a.do(x)
		if x.Over() {
			if got != failed(api.EIO) {
				t.Fatalf("act %d, %v: %+v, and it is over", k, a, got)
			}
			return synced, k
		}
		if _, want := s.states[k].on(a); got != want {
			t.Fatalf("act %d, %v: %+v, not %+v", k, a, got, want)
		}
		if a.what == "Sync" {
			synced = k + 1
		}
	}
	return synced, len(s.acts)
}

// behind mounts what a crash left, and is the last of the states that it may be.
func (s *script) behind(t *testing.T, what string, d *disk.Disk, synced, done int) (*pair, int) {
	t.Helper()
	x := mounted(t, d)
	told := toldBy(t, x)
	for k := done; k >= synced; k-- {
		if m := s.states[k].mounted(); told == m.told() {
			isOne(t, what, x)
			return &pair{d, x, m}, k
		}
	}
	t.Fatalf("%s: none of the states %d to %d:\n%.2000s", what, synced, done, told)
	return nil, 0
}

// again mounts what a crash left, broken off at each step, and crashed: what is there behind that is the same, and that lasts.
func again(t *testing.T, what string, left []api.Page, want string) {
	t.Helper()
	for f := 0; ; f++ {
		for _, choices := range [][]byte{nil, every(64), every(byte(f*7%65 + 1)), {64, 0, 64}} {
			d := onDisk(t, left)
			d.Fuse(f)
			x, e := tree.Mount(d)
			if x == nil && e != api.EIO || x != nil && e != api.OK {
				t.Fatalf("%s: Mount, fuse %d: %v, %d", what, f, x, e)
			}
			d.Crash(choices...)
			if got := toldBy(t, mounted(t, d)); got != want {
				t.Fatalf("%s: Mount, fuse %d, choices %v:\n%.2000s\nnot\n%.2000s", what, f, choices, got, want)
			}
			if x != nil {
				return
			}
		}
	}
}

// P14.3: scripts of acts and Syncs, broken off at each step of the disk, with crashes that keep nothing, all, and beginnings of each page; followed by Mounts, broken off, too, and by the rest of the acts.
func TestCrashesOfScripts(t *testing.T) {
	const pages, inodes = 180, 16
	d := noisy(t, pages)
	if e := tree.Format(d, inodes); e != api.OK {
		t.Fatal(e)
	}
	base := lasting(d)
	atStake, forward, acts := 0, 0, 0
	for seed := range 8 {
		s := newScript(seed+1, pages, inodes, 50)
		seen := map[string]bool{}
		for f, over := 0, true; over; f++ {
			c := chance(f)
			for _, choices := range [][]byte{nil, every(64), every(byte(1 + c.below(63))), c.bytes(pages), {64, 64, 64}} {
				d := onDisk(t, base)
				x := mounted(t, d)
				d.Fuse(f)
				synced, done := s.run(t, x)
				over = x.Over()
				if over && done-synced > 1 {
					atStake++
				}
				if over && s.acts[done].what != "Sync" {
					acts++
				}
				d.Crash(choices...)
				left := lasting(d)
				what := fmt.Sprintf("script %d, fuse %d, choices %.20v", seed, f, choices)
				p, k := s.behind(t, what, d, synced, done)
				if k > synced {
					forward++
				}
				if key := fmt.Sprint(left); !seen[key] {
					seen[key] = true
					if len(seen)%7 == 0 {
						again(t, what, left, p.m.told())
					}
					p.goesOn(t, s.acts[k:])
				}
			}
		}
	}
	if atStake < 100 || forward < 100 || acts < 30 {
		t.Errorf("only %d times more than one act was at stake, %d times one behind the last Sync lasted, %d acts were broken off", atStake, forward, acts)
	}
}

// goesOn does acts of which some aren't done as they would have been: nothing is open.
func (p *pair) goesOn(t *testing.T, l []call) {
	t.Helper()
	p.quiet(t, l...)
	p.like(t, "gone on")
}

// life is a disk with its trees, one behind the other.
type life struct {
	t    *testing.T
	c    chance
	p    *pair
	may  []*model // how it may be behind a crash: the last one is as it is
	seen map[string]int
}

func newLife(t *testing.T, seed int) *life {
	c := chance(seed + 77)
	inodes := 4 + c.below(30)
	p := fresh(t, 43+(inodes+1)/2+10+c.below(200), inodes)
	return &life{t: t, c: c, p: p, may: []*model{p.m}, seen: map[string]int{}}
}

func (l *life) crash() {
	d := l.p.d
	switch l.c.below(4) {
	case 0:
		d.Crash()
	case 1:
		d.Crash(every(64)...)
	case 2:
		d.Crash(every(byte(l.c.below(65)))...)
	default:
		d.Crash(l.c.bytes(l.c.below(2 * d.Pages()))...)
	}
}

// mount mounts what is there, behind a crash, till that goes well.
func (l *life) mount() {
	l.crash()
	for {
		l.p.d.Fuse(l.c.below(30) - 10)
		x, e := tree.Mount(l.p.d)
		if e == api.OK {
			l.p.x = x
			break
		}
		if e != api.EIO || !l.p.d.Down() {
			l.t.Fatalf("Mount: %d", e)
		}
		l.seen["a Mount broken off"]++
		l.crash()
	}
	l.p.d.Fuse(-1)
	told := toldBy(l.t, l.p.x)
	for k := len(l.may) - 1; k >= 0; k-- {
		if m := l.may[k].mounted(); m.told() == told {
			if k < len(l.may)-1 {
				l.seen["led back"]++
			}
			if len(m.nodes) < len(l.may[k].nodes) {
				l.seen["released"]++
			}
			l.p.m, l.may = m, []*model{m}
			isOne(l.t, "mounted", l.p.x)
			return
		}
	}
	l.t.Fatalf("none of the %d states that may be:\n%.2000s", len(l.may), told)
}

func (l *life) act() {
	a := someCall(&l.c, l.p.m, 12)
	if l.c.below(40) == 0 {
		a = sync()
	}
	next, want := l.p.m.on(a)
	got := a.do(l.p.x)
	if l.p.x.Over() {
		l.seen["broken off"]++
		if got != failed(api.EIO) {
			l.t.Fatalf("%v: %+v, and it is over", a, got)
		}
		return
	}
	if got != want {
		l.t.Fatalf("%v: %+v, not %+v", a, got, want)
	}
	l.p.m, l.may = next, append(l.may, next)
	if a.what == "Sync" {
		l.may = l.may[len(l.may)-1:]
	}
	if l.c.below(10) == 0 {
		l.p.like(l.t, "now and then")
	}
}

// P14.1, P14.2, P14.3: long lives of a disk, with acts of all kinds and crashes at any time.
func TestLongLives(t *testing.T) {
	all := map[string]int{}
	for seed := range 40 {
		l := newLife(t, seed)
		for range 400 {
			switch k := l.c.below(60); {
			case l.p.x.Over():
				l.mount()
			case k == 0:
				l.seen["a crash"]++
				l.mount()
			case k == 1:
				l.p.d.Fuse(l.c.below(90))
			default:
				l.act()
			}
		}
		for name, n := range l.seen {
			all[name] += n
		}
	}
	for _, name := range []string{"led back", "released", "a Mount broken off", "broken off", "a crash"} {
		if all[name] < 20 {
			t.Errorf("%s: only %d times", name, all[name])
		}
	}
}
