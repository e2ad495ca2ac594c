package file_test

import (
	"fmt"
	"slices"
	"testing"

	"narthex/api"
	"narthex/disk"
	"narthex/file"
	"narthex/inode"
)

// act is a step of a script, or, without calls, a Sync.
type act []call

// someCall is a call of chance, of inodes that are there for the most part.
func someCall(c *chance, m *model, reach int) call {
	i := 1 + c.below(m.inodes)
	for range 3 {
		if m.list[i] == nil {
			i = 1 + c.below(m.inodes)
		}
	}
	x := inode.Inode{Kind: 1 + c.below(3), Perm: c.below(512), Uid: c.below(9), Links: c.of(0, 0, 1, 2, 40)}
	off := c.of(0, c.below(200), c.below(64*8), c.below(64*40), 64*c.below(reach), c.below(64*reach))
	size := c.of(0, c.below(200), c.below(64*8), c.below(64*40), 64*c.below(reach), c.below(64*reach))
	switch k := c.below(20); {
	case k < 4 && m.spare() > 0:
		return add(x)
	case k < 4 || m.free() < 9 && k < 16:
		return truncate(i, size/8)
	case k < 5:
		x.Kind = api.Dir // the root must stay one, with Links, for a Mount
		x.Links += 2
		return change(1, x)
	case k < 7:
		if i == 1 {
			return look(1)
		}
		return change(i, x)
	case k < 13:
		return write(i, off, c.text(c.of(0, 1, c.below(70), c.below(64*12))))
	case k < 16:
		return truncate(i, size)
	case k < 17:
		return read(i, off, size)
	case k < 18:
		return look(i)
	case i == 1:
		return add(x)
	}
	return release(i)
}

// wrongCall is one that fails.
func wrongCall(c *chance) call {
	switch c.below(5) {
	case 0:
		return fail(api.Errno(c.below(40)))
	case 1:
		return write(2, api.MaxFile-c.below(3), "abc")
	case 2:
		return release(c.of(-1, 0, 99))
	case 3:
		return truncate(1, -1-c.below(9))
	}
	return write(1, 0, many("x", stepRoom+c.below(9)))
}

// someStep is some calls; now and then one of them fails.
func someStep(c *chance, m *model, reach int) (l act) {
	now := m
	for range 1 + c.below(4) {
		a := someCall(c, now, reach)
		l = append(l, a)
		now, _, _ = now.on([]call{a})
	}
	if c.below(8) == 0 {
		l = slices.Insert(l, c.below(len(l)+1), wrongCall(c))
	}
	return l
}

// script is acts, and how the volume is ahead of each, and behind the last.
type script struct {
	acts   []act
	states []*model
}

func newScript(seed, pages, inodes, length int) *script {
	c := chance(seed)
	m := formatted(pages, inodes)
	s := &script{states: []*model{m}}
	for range length {
		var a act
		if c.below(c.of(6, 30)) > 0 {
			a = someStep(&c, m, 70)
			m, _, _ = m.on(a)
		}
		s.acts, s.states = append(s.acts, a), append(s.states, m)
	}
	return s
}

// run does the acts till the volume is over, and tells behind how many acts the last Sync was that was answered OK, and how many were done.
func (s *script) run(t *testing.T, v *file.Volume) (synced, done int) {
	t.Helper()
	for k, a := range s.acts {
		if len(a) == 0 {
			if v.Sync() == api.OK {
				synced = k + 1
			}
		} else {
			_, e := do(v, a)
			if _, _, want := s.states[k].on(a); !v.Over() && e != want {
				t.Fatalf("act %d, %v: %d, not %d", k, a, e, want)
			}
		}
		if v.Over() {
			return synced, k
		}
	}
	return synced, len(s.acts)
}

// behind mounts what a crash left, and holds it against the states that may be. It is what the volume tells.
func (s *script) behind(t *testing.T, what string, left []api.Page, synced, done int) string {
	t.Helper()
	d := onDisk(t, left)
	v := mounted(t, d)
	told := toldBy(t, v)
	for k := synced; k <= done; k++ {
		if told == s.states[k].released().told() {
			sound(t, what, v)
			return told
		}
	}
	t.Fatalf("%s: none of the states %d to %d:\n%.2000s", what, synced, done, told)
	return ""
}

// again mounts what a crash left, broken off at each step, and crashed: what is there behind that is the same, and that lasts.
func again(t *testing.T, what string, left []api.Page, want string) {
	t.Helper()
	for f := 0; ; f++ {
		for _, choices := range [][]byte{nil, every(64), every(byte(f*7%65 + 1)), {64, 0, 64}} {
			d := onDisk(t, left)
			d.Fuse(f)
			v, e := file.Mount(d)
			if v == nil && e != api.EIO || v != nil && e != api.OK {
				t.Fatalf("%s: Mount, fuse %d: %v, %d", what, f, v, e)
			}
			d.Crash(choices...)
			if got := toldBy(t, mounted(t, d)); got != want {
				t.Fatalf("%s: Mount, fuse %d, choices %v:\n%.2000s\nnot\n%.2000s", what, f, choices, got, want)
			}
			if v != nil {
				return
			}
		}
	}
}

// P11.3: scripts of steps and Syncs, broken off at each step of the disk, with crashes that keep nothing, all, and beginnings of each page, followed by Mounts, broken off, too.
func TestCrashesOfScripts(t *testing.T) {
	const pages = 110
	d := made(t, pages)
	wantFormat(t, "the scripts' disk", d, 6, api.OK)
	base := lasting(d)
	broken, keeps := 0, 0
	for seed := range 6 {
		s := newScript(seed+1, pages, 6, 25)
		seen := map[string]bool{}
		for f, over := 0, false; !over; f++ {
			c := chance(f)
			for _, choices := range [][]byte{nil, every(64), every(byte(1 + c.below(63))), c.bytes(pages), {64, 64, 64}} {
				d := onDisk(t, base)
				v := mounted(t, d)
				d.Fuse(f)
				synced, done := s.run(t, v)
				over = !v.Over()
				if v.Over() && done-synced > 1 {
					broken++
				}
				if v.Over() && len(s.acts[done]) > 0 {
					keeps++
				}
				d.Crash(choices...)
				left := lasting(d)
				what := fmt.Sprintf("script %d, fuse %d, choices %.20v", seed, f, choices)
				told := s.behind(t, what, left, synced, done)
				if key := fmt.Sprint(left); !seen[key] && len(seen)%5 == 0 {
					again(t, what, left, told)
				}
				seen[fmt.Sprint(left)] = true
			}
		}
	}
	if broken < 100 || keeps < 100 {
		t.Errorf("only %d times more than one step was at stake, and a Keep's Sync was broken off %d times", broken, keeps)
	}
}

// P11.3: a step without a Sync is gone behind a crash; with one it is there.
func TestCrashBetweenCalls(t *testing.T) {
	for _, choices := range [][]byte{nil, every(64), every(9)} {
		p := fresh(t, 60, 4)
		p.must(t, add(aFile(1)), write(2, 0, "synced"))
		if p.v.Sync() != api.OK {
			t.Fatal("Sync")
		}
		was := p.m
		p.must(t, write(2, 0, "kept"), add(aFile(1)))
		p.d.Crash(choices...)
		p.v, p.m = mounted(t, p.d), was
		p.like(t, "gone")
		p.must(t, write(2, 0, "more"))
		if p.v.Sync() != api.OK {
			t.Fatal("Sync")
		}
		p.d.Crash(choices...)
		p.v = mounted(t, p.d)
		p.like(t, "there")
	}
}

// life is a disk with its volumes, one behind the other, and how each was behind its steps.
type life struct {
	t    *testing.T
	c    chance
	d    *disk.Disk
	v    *file.Volume
	m    *model
	may  []*model // that may be there behind a crash, of which the last one is m
	seen map[string]int
}

func newLife(t *testing.T, seed int) *life {
	c := chance(seed + 77)
	inodes := 1 + c.below(12)
	pages := tableAt + (inodes+1)/2 + 1 + c.below(250)
	d := filled(t, pages)
	wantFormat(t, "a life's disk", d, inodes, api.OK)
	m := formatted(pages, inodes)
	return &life{t: t, c: c, d: d, v: mounted(t, d), m: m, may: []*model{m}, seen: map[string]int{}}
}

func (l *life) crash() {
	switch l.c.below(4) {
	case 0:
		l.d.Crash()
	case 1:
		l.d.Crash(every(64)...)
	case 2:
		l.d.Crash(every(byte(l.c.below(65)))...)
	default:
		l.d.Crash(l.c.bytes(l.c.below(2 * l.d.Pages()))...)
	}
}

// mount mounts what is there, behind a crash, till that goes well.
func (l *life) mount() {
	l.crash()
	for tries := 0; ; tries++ {
		l.d.Fuse(l.c.below(30) - 10)
		v, e := file.Mount(l.d)
		if e == api.OK {
			l.v = v
			break
		}
		if e != api.EIO || !l.d.Down() {
			l.t.Fatalf("Mount: %d", e)
		}
		l.seen["a Mount broken off"]++
		l.crash()
	}
	l.d.Fuse(-1)
	told := toldBy(l.t, l.v)
	for k, m := range l.may {
		if r := m.released(); told == r.told() {
			if k < len(l.may)-1 {
				l.seen["led back"]++
			}
			if r.told() != m.told() {
				l.seen["released"]++
			}
			l.m, l.may = r, []*model{r}
			sound(l.t, "mounted", l.v)
			return
		}
	}
	l.t.Fatalf("none of the %d states that may be:\n%.2000s", len(l.may), told)
}

func (l *life) step() {
	a := someStep(&l.c, l.m, 200)
	next, want, wantE := l.m.on(a)
	got, e := do(l.v, a)
	if l.v.Over() {
		l.seen["a step broken off"]++
		return
	}
	if e != wantE || !slices.Equal(got, want) {
		l.t.Fatalf("%v: %d and %q, not %d and %q", a, e, got, wantE, want)
	}
	if e != api.OK {
		l.seen[fmt.Sprint("failed ", e)]++
		return
	}
	l.m, l.may = next, append(l.may, next)
	if l.c.below(10) == 0 {
		p := &pair{l.d, l.v, l.m}
		p.like(l.t, "now and then")
	}
}

func (l *life) call() {
	switch k := l.c.below(60); {
	case l.v.Over():
		l.mount()
	case k < 55:
		l.step()
	case k < 57:
		if l.v.Sync() == api.OK {
			l.may = l.may[len(l.may)-1:]
		} else {
			l.seen["a Sync broken off"]++
		}
	case k < 58:
		l.seen["a crash"]++
		l.mount()
	default:
		l.d.Fuse(l.c.below(90))
	}
}

// P11.1, P11.2, P11.3: long lives of a disk, with steps of all kinds and crashes at any time.
func TestLongLives(t *testing.T) {
	all := map[string]int{}
	for seed := range 60 {
		l := newLife(t, seed)
		for range 250 {
			l.call()
		}
		for name, n := range l.seen {
			all[name] += n
		}
	}
	for _, name := range []string{"led back", "released", "a Mount broken off", "a step broken off", "a Sync broken off", "a crash", "failed 28", "failed 22", "failed 27"} {
		if all[name] < 20 {
			t.Errorf("%s: only %d times", name, all[name])
		}
	}
}
