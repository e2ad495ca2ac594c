package file_test

import (
	"encoding/binary"
	"fmt"
	"testing"

	"narthex/api"
	"narthex/disk"
	"narthex/file"
	"narthex/inode"
)

// headPage is a journal's head, as chapter 4 says it.
func headPage(seq int, live bool, count int, sum uint32) (p api.Page) {
	binary.BigEndian.PutUint32(p[0:], uint32(seq))
	if live {
		p[4] = 1
	}
	binary.BigEndian.PutUint16(p[5:], uint16(count))
	binary.BigEndian.PutUint32(p[7:], sum)
	binary.BigEndian.PutUint32(p[60:], uint32(seq))
	return p
}

// sumOf is layer 1's sum of pages.
func sumOf(l ...api.Page) uint32 {
	var a, b uint64
	for i, p := range l {
		for k, c := range p {
			a += uint64(c)
			b += uint64(c) * uint64(len(l)*64-i*64-k)
		}
	}
	return uint32(b%65535<<16 | a%65535)
}

// set lets a page last.
func set(d *disk.Disk, i int, p api.Page) {
	d.Write(i, p)
	d.Flush()
}

// lay lets a change last as if a Commit of it had been broken off behind its Live head.
func lay(d *disk.Disk, i int, p api.Page) {
	var numbers api.Page
	binary.BigEndian.PutUint16(numbers[:], uint16(i))
	set(d, journalAt+1, numbers)
	set(d, journalAt+2, p)
	set(d, journalAt, headPage(9, true, 1, sumOf(numbers, p)))
}

// root is the table's first page with a root like that.
func root(kind, links int) (p api.Page) {
	h := half(kind, 493, 0, links, 0)
	copy(p[:], h[:])
	return p
}

func wantMount(t *testing.T, what string, d *disk.Disk, want api.Errno) {
	t.Helper()
	v, e := file.Mount(d)
	if e != want || (v == nil) != (e != api.OK) {
		t.Errorf("%s: Mount: %v, %d, not %d", what, v, e, want)
	}
}

// small is a disk of 60 pages that is a volume of 4 inodes.
func small(t *testing.T) *disk.Disk {
	t.Helper()
	d := filled(t, 60)
	wantFormat(t, "small", d, 4, api.OK)
	return d
}

// P11.1: a nil disk, one that is down, and one that was never formatted.
func TestMountOfNoVolume(t *testing.T) {
	wantMount(t, "nil", nil, api.EIO)
	wantMount(t, "no pages", &disk.Disk{}, api.EINVAL)
	for _, n := range []int{1, 44, 45, 60, 512} {
		wantMount(t, "zero", made(t, n), api.EINVAL)
		wantMount(t, "never formatted", filled(t, n), api.EINVAL)
		wantMount(t, "down", wentDown(filled(t, n)), api.EIO)
	}
	d := wentDown(small(t))
	wantMount(t, "down", d, api.EIO)
	d.Crash()
	wantMount(t, "behind a crash", d, api.OK)
}

// P11.1: a page 0 that is no super page, or of another count. Nothing is done: not even a step that is refused.
func TestMountOfWrongSuperPages(t *testing.T) {
	refused := func(what string, p api.Page) {
		t.Helper()
		d := small(t)
		set(d, 0, p)
		was := lasting(d)
		d.Fuse(0)
		wantMount(t, what, d, api.EINVAL)
		if d.Down() {
			t.Errorf("%s: a step was tried", what)
		}
		wantPages(t, what, d, was)
	}
	refused("zero", api.Page{})
	for at := range 64 {
		p := superPage(60, 4)
		p[at] ^= 0x80
		refused(fmt.Sprint("byte ", at), p)
	}
	for _, c := range [][2]int{{59, 4}, {61, 4}, {45, 1}, {512, 4}, {512, 128}, {60, 0}, {60, 33}, {60, 129}} {
		refused(fmt.Sprint(c), superPage(c[0], c[1]))
	}
	d := small(t)
	set(d, 0, superPage(60, 3))
	wantMount(t, "another right plan of this count", d, api.OK)
}

// P11.1: the store's errors, and the order in which all are asked.
func TestMountOfSpoiltJournals(t *testing.T) {
	for f := range 2 {
		d := small(t)
		d.Fuse(f)
		wantMount(t, fmt.Sprint("fuse ", f), d, api.EIO)
	}
	d := small(t)
	d.Fuse(2)
	wantMount(t, "a journal's Open", d, api.OK)
	d = small(t)
	set(d, journalAt, headPage(9, true, 1, 12345))
	wantMount(t, "another sum", d, api.EIO)
	set(d, 0, superPage(61, 4))
	wantMount(t, "another sum and a wrong super page", d, api.EINVAL)
	set(d, 0, superPage(60, 4))
	set(d, tableAt, root(api.File, 2))
	wantMount(t, "another sum and a wrong root", d, api.EIO)
	wantMount(t, "a wrong super page on a disk that is down", wentDown(filled(t, 60)), api.EIO)
}

// P11.1: an inode 1 that isn't taken, is no Dir, or has no Links; of all else nothing is asked.
func TestMountOfWrongRoots(t *testing.T) {
	for kind := range 5 {
		for _, links := range []int{0, 1, 2, 40, 41, 65535} {
			d := small(t)
			set(d, tableAt, root(kind, links))
			want := api.EIO
			if kind == api.Dir && links > 0 {
				want = api.OK
			}
			wantMount(t, fmt.Sprintf("a root of Kind %d with %d Links", kind, links), d, want)
		}
	}
	// its bit isn't what tells that it is taken
	d := small(t)
	set(d, inodeBitsAt, api.Page{})
	wantMount(t, "no bit", d, api.OK)
}

// P11.1: the root is asked for behind the journal's changes: these may take it, or release it.
func TestMountMakesTheJournalsChanges(t *testing.T) {
	d := small(t)
	set(d, tableAt, root(api.None, 0))
	wantMount(t, "no root", d, api.EIO)
	lay(d, tableAt, root(api.Dir, 2))
	wantMount(t, "a root in the journal", d, api.OK)
	if d.Lasts(tableAt) != root(api.Dir, 2) {
		t.Error("it doesn't last")
	}
	lay(d, tableAt, root(api.File, 2))
	wantMount(t, "none in the journal", d, api.EIO)
}

// P11.1: what has no Links is released with its pages, and that lasts; what has some isn't.
func TestMountReleases(t *testing.T) {
	p := fresh(t, 200, 9)
	p.must(t, add(aFile(0)), add(aFile(1)), add(inode.Inode{Kind: api.Dir, Links: 0}), add(inode.Inode{Kind: api.Link, Links: 40}), add(aFile(0)))
	p.must(t, write(2, 0, many("a", 5)), write(2, 64*36, "deep"), write(3, 64*1059, "kept"))
	p.must(t, write(4, 64*35, "b"), write(6, 10, "c"), write(1, 0, "root"))
	// one whose Links went, and one whose Links came
	p.must(t, add(aFile(3)), add(aFile(0)), write(7, 0, "d"), write(8, 0, "e"))
	p.must(t, change(7, aFile(0)), change(8, aFile(2)))
	if p.v.Sync() != api.OK {
		t.Fatal("Sync")
	}
	p.v, p.m = mounted(t, p.d), p.m.released()
	p.like(t, "mounted")
	if p.v.Spare() != 9-4 || p.m.list[2] != nil || p.m.list[8] == nil {
		t.Errorf("%d spare", p.v.Spare())
	}
	p.d.Crash()
	p.d.Fuse(2)
	p.v = mounted(t, p.d)
	p.like(t, "nothing is left to be done but the journal's Open")
}

// crowded is a volume all of whose inodes but the root have no Links, and pages.
func crowded(t *testing.T) *pair {
	t.Helper()
	p := fresh(t, 512, 128)
	for i := 2; i <= 128; i++ {
		l := []call{add(aFile(0)), write(i, 64*(i%7), "x")}
		p.m, _, _ = p.m.on(l)
		if _, e := do(p.v, l); e != api.OK {
			t.Fatalf("%v: %d", l, e)
		}
	}
	p.like(t, "all are taken")
	if p.v.Sync() != api.OK {
		t.Fatal("Sync")
	}
	return p
}

// P11.1: more inodes without Links than a step, or a group, has room for.
func TestMountReleasesAll(t *testing.T) {
	p := crowded(t)
	p.refused(t, api.ENOSPC, add(aFile(0)))
	p.v, p.m = mounted(t, p.d), p.m.released()
	p.like(t, "mounted")
	if p.v.Spare() != 127 || p.v.Free() != p.v.Plan().Room() {
		t.Errorf("%d spare, %d free", p.v.Spare(), p.v.Free())
	}
	p.d.Crash()
	p.v = mounted(t, p.d)
	p.like(t, "behind a crash")
}

// P11.1, P11.3: a Mount that is broken off at each step of the disk, amid what it releases: the next one goes on.
func TestMountThatIsBrokenOff(t *testing.T) {
	p := crowded(t)
	left, want := lasting(p.d), p.m.released().told()
	for f := 0; ; f++ {
		d := onDisk(t, left)
		d.Fuse(f)
		v, e := file.Mount(d)
		if v == nil && e != api.EIO || v != nil && e != api.OK {
			t.Fatalf("fuse %d: %v, %d", f, v, e)
		}
		d.Crash(every(byte(f))...)
		if got := toldBy(t, mounted(t, d)); got != want {
			t.Fatalf("fuse %d: %s, not %s", f, got, want)
		}
		if v != nil {
			return
		}
	}
}
