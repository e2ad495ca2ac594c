package file_test

import (
	"encoding/binary"
	"fmt"
	"math"
	"testing"

	"narthex/api"
	"narthex/disk"
	"narthex/file"
)

// superPage is a super page, as chapter 8 says it.
func superPage(pages, inodes int) (p api.Page) {
	copy(p[:], "NRTX")
	binary.BigEndian.PutUint16(p[4:], uint16(pages))
	binary.BigEndian.PutUint16(p[6:], uint16(inodes))
	return p
}

// half is an inode's half of a page without page numbers, as chapter 9 says it.
func half(kind, perm, uid, links, size int) (h [32]byte) {
	h[0] = byte(kind)
	binary.BigEndian.PutUint16(h[2:], uint16(perm))
	binary.BigEndian.PutUint16(h[4:], uint16(uid))
	binary.BigEndian.PutUint16(h[6:], uint16(links))
	binary.BigEndian.PutUint32(h[8:], uint32(size))
	return h
}

// ahead is what each page ahead of the data is behind a Format.
func ahead(pages, inodes int) []api.Page {
	l := make([]api.Page, tableAt+(inodes+1)/2)
	l[0] = superPage(pages, inodes)
	l[inodeBitsAt][0] = 1
	h := half(api.Dir, 493, 0, 2, 0)
	copy(l[tableAt][:], h[:])
	return l
}

// lasting is what lasts of all pages.
func lasting(d *disk.Disk) []api.Page {
	l := make([]api.Page, d.Pages())
	for i := range l {
		l[i] = d.Lasts(i)
	}
	return l
}

// onDisk is a disk on which these pages last.
func onDisk(t *testing.T, l []api.Page) *disk.Disk {
	t.Helper()
	d := made(t, len(l))
	for i, p := range l {
		d.Write(i, p)
	}
	d.Flush()
	return d
}

func wentDown(d *disk.Disk) *disk.Disk {
	d.Fuse(0)
	d.Flush()
	return d
}

func wantFormat(t *testing.T, what string, d *disk.Disk, inodes int, want api.Errno) {
	t.Helper()
	if e := file.Format(d, inodes); e != want {
		t.Errorf("%s: Format(%d): %d, not %d", what, inodes, e, want)
	}
}

// P11.1: that the disk is down is asked ahead of the plan.
func TestFormatOfNoDisk(t *testing.T) {
	for _, inodes := range []int{math.MinInt, -1, 0, 1, 4, 128, 129, math.MaxInt} {
		wantFormat(t, "nil", nil, inodes, api.EIO)
		d := filled(t, 60)
		was := lasting(d)
		wantFormat(t, "down", wentDown(d), inodes, api.EIO)
		wantPages(t, "down", d, was)
	}
}

func wantPages(t *testing.T, what string, d *disk.Disk, want []api.Page) {
	t.Helper()
	if d.Cached() != 0 {
		t.Errorf("%s: %d pages are in the cache", what, d.Cached())
	}
	for i, p := range want {
		if got := d.Lasts(i); got != p {
			t.Errorf("%s: page %d is %v, not %v", what, i, got, p)
		}
	}
}

// P11.1: counts that have no plan: nothing is done, not even a step that is refused: the disk would be down.
func TestFormatOfWrongCounts(t *testing.T) {
	for _, c := range []struct{ pages, inodes int }{
		{60, 0}, {60, -1}, {60, math.MinInt}, {60, 129}, {60, math.MaxInt}, {60, math.MaxInt - 1}, {60, 33}, {60, 34}, {60, 128},
		{1, 1}, {44, 1}, {44, 2}, {45, 3}, {45, 0}, {106, 127}, {107, 128}, {107, 127}, {512, 129}, {512, 0}, {512, 1 << 16}, {512, 1<<16 + 1}, {512, 1<<32 + 1},
	} {
		d := filled(t, c.pages)
		was := lasting(d)
		d.Fuse(0)
		wantFormat(t, fmt.Sprint(c.pages), d, c.inodes, api.EINVAL)
		if d.Down() {
			t.Errorf("%v: a step was tried", c)
		}
		wantPages(t, fmt.Sprint(c), d, was)
	}
	wantFormat(t, "a disk without pages", &disk.Disk{}, 1, api.EINVAL)
}

// P11.1: the least plan, the greatest one, and some between: what each page has, on a disk that had other bytes; the data stays.
func TestFormat(t *testing.T) {
	for _, c := range []struct{ pages, inodes int }{
		{45, 1}, {45, 2}, {46, 3}, {60, 4}, {60, 5}, {60, 32}, {108, 127}, {108, 128}, {200, 1}, {512, 1}, {512, 2}, {512, 127}, {512, 128},
	} {
		d := filled(t, c.pages)
		want := append(ahead(c.pages, c.inodes), lasting(d)[tableAt+(c.inodes+1)/2:]...)
		wantFormat(t, fmt.Sprint(c.pages), d, c.inodes, api.OK)
		wantPages(t, fmt.Sprint(c), d, want)
		p := &pair{d, mounted(t, d), formatted(c.pages, c.inodes)}
		p.like(t, fmt.Sprint(c))
		if p.v.Free() != c.pages-tableAt-(c.inodes+1)/2 || p.v.Spare() != c.inodes-1 {
			t.Errorf("%v: %d free, %d spare", c, p.v.Free(), p.v.Spare())
		}
	}
}

// P11.1: the chapter's first example.
func TestExampleOfFormat(t *testing.T) {
	d := made(t, 60)
	wantFormat(t, "60 pages", d, 4, api.OK)
	if v := mounted(t, d); v.Plan().Room() != 15 || v.Free() != 15 || v.Spare() != 3 {
		t.Errorf("%d data pages, %d free, %d spare", v.Plan().Room(), v.Free(), v.Spare())
	}
}

// P11.1: what was there is gone, the root's bytes, too.
func TestFormatOfAVolume(t *testing.T) {
	p := fresh(t, 60, 4)
	p.must(t, add(aFile(1)), write(1, 0, "root"), write(2, 0, many("x", 6)))
	if p.v.Sync() != api.OK {
		t.Fatal("Sync")
	}
	wantFormat(t, "a volume", p.d, 7, api.OK)
	q := &pair{p.d, mounted(t, p.d), formatted(60, 7)}
	q.like(t, "formatted again")
	q.must(t, write(1, 70, "y"))
}

// P11.1: a disk that goes down at each step, and crashes: the super page comes in a flush of its own, so all else is there, if it is.
func TestFormatThatIsBrokenOff(t *testing.T) {
	was := lasting(filled(t, 60))
	done := append(ahead(60, 5), was[46:]...)
	supers := 0
	for f := 0; ; f++ {
		for _, choices := range [][]byte{nil, {64}, {8}, {7}, every(64), every(1), every(33), {0, 64, 64}} {
			d := onDisk(t, was)
			d.Fuse(f)
			e := file.Format(d, 5)
			if e == api.OK {
				if d.Down() || supers == 0 {
					t.Fatalf("fuse %d: Down %v, %d supers", f, d.Down(), supers)
				}
				wantPages(t, "done", d, done)
				return
			}
			if e != api.EIO || !d.Down() {
				t.Fatalf("fuse %d: %d", f, e)
			}
			alone := d.Cached() == 1
			d.Crash(choices...)
			if d.Lasts(0) != done[0] {
				if v, e := file.Mount(d); v != nil || e != api.EINVAL {
					t.Fatalf("fuse %d, choices %v: Mount: %v, %d", f, choices, v, e)
				}
				continue
			}
			supers++
			if !alone {
				t.Fatalf("fuse %d: others were flushed with the super page", f)
			}
			wantPages(t, fmt.Sprintf("fuse %d, choices %v", f, choices), d, done)
		}
	}
}

// every is a choice for each page that a disk may have.
func every(c byte) []byte {
	l := make([]byte, api.MaxPages)
	for i := range l {
		l[i] = c
	}
	return l
}
