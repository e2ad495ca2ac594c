package file_test

import (
	"encoding/binary"
	"fmt"
	"math"
	"testing"

	"narthex/api"
	"narthex/disk"
	"narthex/file"
	"narthex/inode"
)

// spoilt is a volume of 100 pages and 8 inodes of which inode 2's half is that.
func spoilt(t *testing.T, h [32]byte) (*disk.Disk, *file.Volume) {
	t.Helper()
	d := filled(t, 100)
	wantFormat(t, "spoilt", d, 8, api.OK)
	p := root(api.Dir, 2)
	copy(p[32:], h[:])
	set(d, tableAt, p)
	return d, mounted(t, d)
}

// with is a half with a number in two bytes.
func with(h [32]byte, at, n int) [32]byte {
	binary.BigEndian.PutUint16(h[at:], uint16(n))
	return h
}

// wrongNumbers are those of pages that aren't data pages, on such a disk.
func wrongNumbers() []int { return []int{1, 40, 41, 42, 43, 46, 100, 101, 512, 65535} }

// A file that has another page than a data page: EIO, wherever the number stands, and nothing is written there. What is released of it are its data pages.
func TestNumbersThatAreNoDataPages(t *testing.T) {
	for _, n := range wrongNumbers() {
		for at, index := range map[int]int{12: 0, 18: 3, 20: 4, 22: 36} {
			what := fmt.Sprintf("number %d at %d", n, at)
			d, v := spoilt(t, with(with(half(api.File, 420, 0, 1, 64*40), at, n), 14, 60))
			was := lasting(d)
			if _, e := v.Read(2, 64*index, 1); e != api.EIO {
				t.Errorf("%s: Read: %d", what, e)
			}
			if text, e := v.Read(2, 64, 64); e != api.OK || text != string(was[60][:]) {
				t.Errorf("%s: Read of another page: %q, %d", what, text, e)
			}
			for _, c := range []call{read(2, 64*index, 1), write(2, 64*index, "x"), write(2, 64*index, many("x", 1)), truncate(2, 64*index+1)} {
				if _, e := do(v, []call{c}); e != api.EIO {
					t.Errorf("%s: %v: %d", what, c, e)
				}
			}
			if e := v.Sync(); e != api.OK {
				t.Errorf("%s: Sync: %d", what, e)
			}
			cutAway(t, what, v)
			for i, p := range was {
				if d.Lasts(i) != p {
					t.Errorf("%s: page %d was written", what, i)
				}
			}
			set(d, dataBitsAt, full(0xff))
			if _, e := do(v, []call{release(2)}); e != api.OK || v.Free() != 1 || v.Spare() != 7 {
				t.Errorf("%s: Release: %d, %d free, %d spare", what, e, v.Free(), v.Spare())
			}
		}
	}
}

// cutAway asks that a Truncate to 0 leaves no number, within a step that fails: then all is as it was.
func cutAway(t *testing.T, what string, v *file.Volume) {
	t.Helper()
	if e := v.Do(func(s *file.Step) {
		s.Truncate(2, 0)
		if x := s.Inode(2); x != (inode.Inode{Kind: api.File, Perm: 420, Links: 1}) {
			t.Errorf("%s: behind a Truncate to 0: %v", what, x)
		}
		s.Fail(api.EPERM)
	}); e != api.EPERM {
		t.Errorf("%s: Truncate to 0: %d", what, e)
	}
}

func full(b byte) (p api.Page) {
	for i := range p {
		p[i] = b
	}
	return p
}

// A Size above MaxFile: what no page can be of is read as 0; a Truncate mends it.
func TestSizesAboveMaxFile(t *testing.T) {
	for _, size := range []int{api.MaxFile + 1, 1 << 24, math.MaxUint32} {
		_, v := spoilt(t, half(api.File, 420, 0, 1, size))
		for _, off := range []int{0, api.MaxFile - 5, api.MaxFile, api.MaxFile + 1, size - 1, size, size + 1, math.MaxInt} {
			text, e := v.Read(2, off, 100)
			if e != api.OK || text != zeros(max(0, min(100, size-off))) {
				t.Errorf("Size %d: Read at %d: %q, %d", size, off, text, e)
			}
		}
		if _, e := do(v, []call{change(2, aFile(1))}); e != api.EINVAL {
			t.Errorf("Size %d: Change: %d", size, e)
		}
		if _, e := do(v, []call{write(2, api.MaxFile, "x")}); e != api.EFBIG {
			t.Errorf("Size %d: Write: %d", size, e)
		}
		if _, e := do(v, []call{write(2, 5, "x"), truncate(2, 6), change(2, aFile(1))}); e != api.OK {
			t.Errorf("Size %d: Truncate: %d", size, e)
		}
		if text, e := v.Read(2, 0, 100); e != api.OK || text != zeros(5)+"x" {
			t.Errorf("Size %d: %q, %d", size, text, e)
		}
	}
}

// An inode without a Kind is the zero one, whatever else stands there, and is taken as any other; one of no Kind that there is, is taken.
func TestHalvesOfOtherKinds(t *testing.T) {
	_, v := spoilt(t, with(half(api.None, 511, 9, 3, 99), 12, 60))
	if text := toldBy(t, v); v.Spare() != 7 {
		t.Errorf("%s", text)
	}
	if answers, e := do(v, []call{add(aFile(1)), read(2, 0, 99), write(2, 0, "x")}); e != api.OK || answers[0] != "2" || answers[1] != "" {
		t.Errorf("%q, %d", answers, e)
	}
	_, v = spoilt(t, half(9, 420, 0, 1, 5))
	if x, e := v.Inode(2); e != api.OK || x.Kind != 9 || v.Spare() != 6 {
		t.Errorf("%v, %d, %d spare", x, e, v.Spare())
	}
	if text, e := v.Read(2, 0, 9); e != api.OK || text != zeros(5) {
		t.Errorf("%q, %d", text, e)
	}
	if answers, e := do(v, []call{add(aFile(1)), change(2, aFile(1))}); e != api.OK || answers[0] != "3" {
		t.Errorf("%q, %d", answers, e)
	}
}

// Volumes with any bytes behind the journal: no call panics, and each ends; neither the super page nor the journal is a file's.
func TestVolumesOfAnyBytes(t *testing.T) {
	mounts, done := 0, 0
	for seed := range 300 {
		c := chance(seed + 5)
		d := filled(t, 100)
		wantFormat(t, "any bytes", d, 8, api.OK)
		for i := tableAt - c.below(3); i < 100; i++ {
			p := api.Page(c.bytes(64))
			for k := range 32 { // numbers of pages that there are, for the most part
				if c.below(8) > 0 {
					p[2*k], p[2*k+1] = 0, byte(c.below(104))
				}
			}
			if i == tableAt {
				h := half(api.Dir, 493, 0, 2, c.below(api.MaxFile))
				copy(p[:12], h[:])
			}
			set(d, i, p)
		}
		v, e := file.Mount(d)
		if e != api.OK {
			continue
		}
		mounts++
		m := formatted(100, 8)
		for range 40 {
			if _, e := do(v, []call{someCall(&c, m, 1060), write(1+c.below(8), c.below(api.MaxFile), c.text(c.below(99)))}); e == api.OK {
				done++
			}
			v.Spare()
			v.Read(1+c.below(8), c.below(1<<32), c.below(api.MaxFile))
		}
		v.Sync()
		if p := pageOf(t, v, 0); p != superPage(100, 8) || d.Lasts(0) != p {
			t.Fatalf("seed %d: page 0 is %v", seed, p)
		}
	}
	if mounts < 200 || done < 500 {
		t.Errorf("only %d Mounts, %d steps", mounts, done)
	}
}
