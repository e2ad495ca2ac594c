package check_test

import (
	"fmt"
	"slices"
	"strings"
	"testing"

	"narthex/api"
	"narthex/check"
	"narthex/disk"
	"narthex/file"
	"narthex/slot"
	"narthex/tree"
)

// chance is numbers that look like chance, the same in each run.
type chance uint32

func (c *chance) below(n int) int {
	*c = *c*1664525 + 1013904223
	return int(*c>>8) % n
}

func (c *chance) of(l ...int) int { return l[c.below(len(l))] }

// life is a tree to which acts of chance are done.
type life struct {
	c     chance
	d     *disk.Disk
	x     *tree.Tree
	names int
	seen  map[string]int
}

func newLife(t *testing.T, seed int) *life {
	c := chance(seed*7919 + 3)
	inodes := c.of(4, 9, 16, 33, 128)
	d, x := made(t, tableAt+(inodes+1)/2+c.of(8, 40, 120, 300), inodes)
	return &life{c, d, x, c.of(3, 8, 40), map[string]int{}}
}

// ino is one that is there, for the most part, and of that Kind.
func (l *life) ino(kind int) int {
	n := l.x.Volume().Plan().Inodes
	for range 12 {
		i := 1 + l.c.below(n)
		if a, _ := l.x.Getattr(i); a.Kind == kind && (a.Links > 0 || l.c.below(4) == 0) {
			return i
		}
	}
	return l.c.of(1, 1+l.c.below(n))
}

// place is a directory and a name, one that is there if it has any.
func (l *life) place() (int, string) {
	in := l.ino(api.Dir)
	if all, _ := l.x.List(in); len(all) > 0 && l.c.below(8) > 0 {
		return in, all[l.c.below(len(all))].Name
	}
	return in, l.name()
}

func (l *life) name() string { return fmt.Sprint("n", l.c.below(l.names)) }

// act does an act of chance, and is what it answers.
func (l *life) act() (what string, e api.Errno) {
	c, x := &l.c, l.x
	in, name := l.place()
	f := l.ino(api.File)
	off := c.of(0, c.below(300), 64*c.below(40), c.below(api.MaxFile))
	switch k := c.below(30); {
	case k < 3:
		_, e = x.Create(in, l.name(), c.below(512), c.below(9))
		return "Create", e
	case k < 7:
		_, e = x.Mkdir(in, l.name(), c.below(512), c.below(9))
		return "Mkdir", e
	case k < 8:
		_, e = x.Symlink(in, l.name(), "target", 0)
		return "Symlink", e
	case k < 11:
		_, e = x.Link(in, l.name(), l.ino(c.of(api.File, api.Link)))
		return "Link", e
	case k < 13:
		return "Unlink", x.Unlink(in, name)
	case k < 14:
		return "Rmdir", x.Rmdir(in, name)
	case k < 18:
		to, other := l.place()
		return "Rename", x.Rename(in, name, to, []string{other, l.name()}[c.below(2)])
	case k < 23:
		return "Put", x.Put(f, off, strings.Repeat("x", c.of(1, 64, c.below(api.MaxIO))))
	case k < 25:
		return "Resize", x.Resize(f, off)
	case k < 26:
		return "Chmod", x.Chmod(f, c.below(512))
	case k < 28:
		return "Open", x.Open(l.ino(c.of(api.File, api.File, api.Dir, api.Link)))
	}
	return "Close", x.Close(1 + c.below(x.Volume().Plan().Inodes))
}

// again brings the disk up again, behind a crash.
func (l *life) again(t *testing.T) {
	t.Helper()
	var choices []byte
	for range l.c.of(0, 40, api.MaxPages) {
		choices = append(choices, byte(l.c.of(0, 64, l.c.below(65))))
	}
	l.d.Crash(choices...)
	x, e := tree.Mount(l.d)
	if e != api.OK {
		t.Fatalf("Mount: %d", e)
	}
	l.x = x
}

// next is an act, or now and then a Sync, or a crash, of a disk that goes down of itself too.
func (l *life) next(t *testing.T) string {
	t.Helper()
	switch k := l.c.below(120); {
	case l.x.Over():
		l.again(t)
		return "Mount of what was over"
	case k == 0:
		l.again(t)
		return "Mount"
	case k == 1:
		l.d.Fuse(l.c.below(60))
		return "Fuse"
	case k < 4:
		return fmt.Sprint("Sync ", l.x.Sync())
	}
	what, e := l.act()
	return fmt.Sprint(what, " ", e)
}

// gone is how many inodes are open and have no Links.
func (l *life) gone() int {
	n := 0
	for i := 1; i <= l.x.Volume().Plan().Inodes; i++ {
		if a, e := l.x.Getattr(i); e == api.OK && a.Links == 0 {
			n++
		}
	}
	return n
}

// P15.1: behind each act of random scripts over a tree, crashes too, there are no problems; nor are there where something is open that has no Links.
func TestScripts(t *testing.T) {
	seen := map[string]int{}
	for seed := range 30 {
		l := newLife(t, seed)
		for range 400 {
			what := l.next(t)
			seen[what]++
			if l.x.Over() || l.d.Down() {
				seen["over"]++
				continue
			}
			if l.gone() > 0 {
				seen["gone"]++
			}
			if told, e := check.Volume(l.x.Volume()); len(told) > 0 || e != api.OK || !check.Clean(l.x.Volume()) {
				t.Fatalf("script %d, %s: %v, %d", seed, what, told, e)
			}
		}
		if told := modelOf(l.x.Volume()); len(told) > 0 && !l.x.Over() && !l.d.Down() {
			t.Fatalf("script %d: the model tells %v", seed, told)
		}
	}
	for _, what := range []string{"Create 0", "Mkdir 0", "Symlink 0", "Link 0", "Unlink 0", "Rmdir 0", "Rename 0", "Put 0", "Resize 0", "Open 0", "Close 0", "Sync 0", "Put 28", "Mount", "Mount of what was over", "gone"} {
		if seen[what] < 20 {
			t.Errorf("%s: only %d times", what, seen[what])
		}
	}
}

// grown is a tree behind many acts, all of which lasts.
func grown(t *testing.T, seed int) *life {
	t.Helper()
	l := newLife(t, seed)
	for range 200 {
		l.act()
	}
	must(t, l.x.Sync())
	return l
}

// P15.2: each inode's bit and each data page's bit, turned one by one over some trees: just this is a problem then, also when the disk is brought up again (if nothing without Links is open: a Mount releases that, and mends its bits).
func TestEachBitTurned(t *testing.T) {
	open := 0
	for seed := range 14 {
		l := grown(t, seed)
		if seed%2 == 0 {
			l.again(t)
		}
		v := l.x.Volume()
		p := v.Plan()
		if l.gone() > 0 {
			open++
		}
		turn := func(s spoil, want func(v *file.Volume) check.Problem) {
			t.Helper()
			spoils(l.d, s)
			all := []*file.Volume{v}
			if l.gone() == 0 {
				all = append(all, mounted(t, twin(t, l.d)))
			}
			for _, v := range all {
				if told, e := check.Volume(v); !slices.Equal(told, []check.Problem{want(v)}) || e != api.OK {
					t.Fatalf("tree %d: %v, %d, not %v", seed, told, e, want(v))
				}
			}
			spoils(l.d, s)
		}
		for i := 1; i <= p.Inodes; i++ {
			turn(inodeBit(i), func(*file.Volume) check.Problem { return ofInode(check.Bits, i) })
		}
		for bit := range p.Room() {
			turn(turned(dataBitsAt, bit), func(v *file.Volume) check.Problem {
				// what is lost is so where the bit is 1 now
				if x, _ := v.Page(dataBitsAt); x[bit/8]>>(bit%8)&1 == 1 {
					return ofPage(check.Lost, p.At(bit))
				}
				return ofPage(check.Unmarked, p.At(bit))
			})
		}
		has(t, "turned back", v)
	}
	if open < 4 {
		t.Errorf("something that has no Links is open in only %d trees", open)
	}
}

// twin is a disk with what lasts of another one.
func twin(t *testing.T, d *disk.Disk) *disk.Disk {
	t.Helper()
	n, e := disk.New(d.Pages())
	must(t, e)
	for i := range d.Pages() {
		n.Write(i, d.Lasts(i))
	}
	n.Flush()
	return n
}

// someSpoil is a change of chance of what matters, of an inode, a directory, a page of numbers, or bits.
func someSpoil(c *chance, v *file.Volume) spoil {
	p := v.Plan()
	ino := 1 + c.below(p.Inodes)
	page := c.of(p.Data()+c.below(p.Room()), p.Data()+c.below(min(30, p.Room())))
	num := c.of(0, page, c.below(p.Pages), p.Data()+c.below(min(30, p.Room())), c.below(65536))
	switch c.below(14) {
	case 0:
		return turned(inodeBitsAt, c.below(p.Inodes))
	case 1:
		return turned(dataBitsAt, c.below(p.Room()))
	case 2, 3:
		return leads(ino, c.below(6), num)
	case 4:
		return links(ino, c.of(0, 1, 2, 3, 40, 41))
	case 5:
		return size(ino, c.of(0, 64, 128, 64*c.below(1061), c.below(api.MaxFile), 1<<31))
	case 6:
		return kind(ino, c.of(0, 1, 2, 2, 3, 4))
	case 7:
		return perm(ino, c.of(511, 512))
	case 8, 9, 10:
		return entryOf(c, page, slot.Entry{Ino: c.of(ino, ino, p.Inodes+1, 65535), Name: fmt.Sprint("s", c.below(9))})
	case 11:
		return entryOf(c, page, slot.Entry{})
	case 12:
		return number(page, c.below(32), num)
	}
	return bytesAt(page, c.below(64), string([]byte{byte(c.below(256))}))
}

func entryOf(c *chance, at int, e slot.Entry) spoil { return entry(at, c.below(4), e.Ino, e.Name) }

// P15.1: trees that were spoilt at random, more and more: what is told is what the model tells, and nothing panics.
func TestSpoiltTrees(t *testing.T) {
	kinds, most := map[int]int{}, 0
	for seed := range 60 {
		l := grown(t, seed)
		for k := range 50 {
			spoils(l.d, someSpoil(&l.c, l.x.Volume()))
			v := l.x.Volume()
			if n, e := file.Mount(twin(t, l.d)); k%2 == 0 && e == api.OK { // it may be that the root isn't there
				v = n
			}
			told, e := check.Volume(v)
			if want := modelOf(v); !slices.Equal(told, want) || e != api.OK {
				t.Fatalf("tree %d, spoilt %d times: %v, %d, not %v", seed, k+1, told, e, want)
			}
			if check.Clean(v) != isClean(v, told) {
				t.Fatalf("tree %d, spoilt %d times: Clean is %v", seed, k+1, check.Clean(v))
			}
			for _, p := range told {
				kinds[p.Kind]++
			}
			most = max(most, len(told))
		}
	}
	for kind := check.Bits; kind <= check.Orphan; kind++ {
		if kinds[kind] < 100 {
			t.Errorf("Kind %d: only %d times", kind, kinds[kind])
		}
	}
	if most < 20 {
		t.Errorf("%d problems at most", most)
	}
}
