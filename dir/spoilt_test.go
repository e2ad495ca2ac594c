package dir_test

import (
	"encoding/binary"
	"fmt"
	"strings"
	"testing"

	"narthex/api"
	"narthex/dir"
	"narthex/disk"
	"narthex/file"
	"narthex/slot"
)

// P13.1: of two slots with one name the first one counts, wherever they are; All tells both.
func TestDoubles(t *testing.T) {
	for second := range 12 {
		for first := range second {
			p := fresh(t, 20)
			l := make([]slot.Entry, 12)
			for k := range l {
				if k != 5 {
					l[k] = slot.Entry{Ino: 100 + k, Name: fmt.Sprint("n", k)}
				}
			}
			l[first].Ino, l[first].Name = 200, "two"
			l[second].Ino, l[second].Name = 300, "two"
			p.lays(t, other, l...)
			found := func(want int) {
				t.Helper()
				if n, e := dir.Find(p.v, other, "two"); n != want || e != api.OK {
					t.Errorf("slots %d and %d: %d, %d, not %d", first, second, n, e, want)
				}
			}
			found(200)
			p.refused(t, api.EEXIST, add(other, "two", 1))
			p.must(t, set(other, "two", 201), all(other))
			found(201)
			p.must(t, remove(other, "two"), all(other))
			found(300)
			p.refused(t, api.EEXIST, add(other, "two", 1))
			p.must(t, set(other, "two", 301))
			found(301)
			p.must(t, remove(other, "two"))
			found(0)
			p.refused(t, api.ENOENT, remove(other, "two"))
		}
	}
}

// noSlots are 16 bytes each that are no entry, and aren't empty.
func noSlots() []string {
	var l []string
	for _, s := range []string{
		"\x00\x00\x01a", "\x00\x00\x0dabcdefghijklm", "\x00\x01\x00", "\x00\x01\x00a", "\xff\xff\x00", "\x00\x00\x01", "\x00\x00\x00a",
		"\x00\x01\x01", "\x00\x01\x02a", "\x00\x01\x02\x00a", "\x00\x01\x01ab", "\x00\x01\x01a\x00b", "\x00\x01\x01a\x00\x00\x00\x00\x00\x00\x00\x00\x00\x00\x00\x01",
		"\x00\x01\x01.", "\x00\x01\x02..", "\x00\x01\x01/", "\x00\x01\x03a/b", "\x00\x01\x0eabcdefghijklm", "\x00\x01\xffabcdefghijklm",
		"garbage", strings.Repeat("\xff", 16), strings.Repeat("\x00", 15) + "\x01",
	} {
		l = append(l, s+strings.Repeat("\x00", 16-len(s)))
	}
	return l
}

// spoil lays bytes over a directory's slot, which lies in a page of its own if it is far off.
func spoil(t *testing.T, v *file.Volume, ino, at int, bytes string) {
	t.Helper()
	if e := v.Do(func(s *file.Step) {
		s.Truncate(ino, max(s.Inode(ino).Size, (at/4+1)*64))
		s.Write(ino, 16*at, bytes)
	}); e != api.OK {
		t.Fatalf("spoil: %d", e)
	}
}

// P13.1: a slot that is none, in the first page or a later one: every call fails with EIO, ahead of all other errors, but Add tells first what is wrong with its name or number. Nothing changes.
func TestSlotsThatAreNone(t *testing.T) {
	for _, bytes := range noSlots() {
		for _, at := range []int{0, 1, 2, 3, 4, 7, 15, 16, 19, 20, 143, 144, 147, 163, 4*1060 - 1} {
			p := fresh(t, 12)
			p.numbered(t, other, 8)
			p.must(t, remove(other, "n4"), remove(other, "n2"))
			spoil(t, p.v, other, at, bytes)
			allFail(t, p, fmt.Sprintf("%q in slot %d", bytes, at))
		}
	}
}

// allFail asks for EIO of every call on the directory other, that has n0 and n1 among its names.
func allFail(t *testing.T, p *pair, what string) {
	t.Helper()
	was, _ := p.v.Read(other, 0, api.MaxFile)
	free := p.v.Free()
	for _, c := range append(eachCall(other),
		find(other, "n7"), find(other, "n4"), find(other, ""), find(other, "."), find(other, "garbage"),
		add(other, "n0", 1), add(other, "n7", 65535), set(other, "n0", 0), set(other, "n0", 65536), set(other, "x", 1), set(other, "x", 0), set(other, "", 0),
		remove(other, "n0"), remove(other, "x"), remove(other, ""), remove(other, "/")) {
		wantFailure(t, p.v, what, c, api.EIO)
	}
	for _, ino := range []int{-1, 0, 1, 65535, 65536} {
		for name, want := range map[string]api.Errno{"": api.ENOENT, ".": api.EINVAL, "a/b": api.EINVAL, "abcdefghijklmn": api.ENAMETOOLONG} {
			wantFailure(t, p.v, what, add(other, name, ino), want)
		}
		if ino != 1 && ino != 65535 {
			wantFailure(t, p.v, what, add(other, "n0", ino), api.EINVAL)
			wantFailure(t, p.v, what, add(other, "x", ino), api.EINVAL)
		}
	}
	wantError(t, p.v, other, api.EIO)
	if now, _ := p.v.Read(other, 0, api.MaxFile); now != was || p.v.Free() != free {
		t.Fatalf("%s: something has changed", what)
	}
	if _, e := dir.All(p.v, root); e != api.OK {
		t.Fatalf("%s: the other directory: %d", what, e)
	}
}

// wantFailure asks for the error of a call, behind one that is undone with it.
func wantFailure(t *testing.T, v *file.Volume, what string, c call, want api.Errno) {
	t.Helper()
	if e := v.Do(func(s *file.Step) {
		d := dir.Of(s, c.dir)
		dir.Of(s, root).Add("undone", 1)
		c.on(d)
		t.Errorf("%s: %v goes on", what, c)
	}); e != want {
		t.Fatalf("%s: %v: %d, not %d", what, c, e, want)
	}
	if n, e := dir.Find(v, root, "undone"); n != 0 || e != api.OK {
		t.Fatalf("%s: %v: %d, %d", what, c, n, e)
	}
}

// P13.1: a slot that is none comes ahead of ENOSPC, and of EFBIG.
func TestNoneAheadOfNoRoom(t *testing.T) {
	p := fresh(t, 1)
	l := []slot.Entry{{Ino: 1, Name: "a"}, {Ino: 1, Name: "b"}, {Ino: 1, Name: "c"}, {Ino: 1, Name: "d"}}
	p.lays(t, other, l...)
	p.refused(t, api.ENOSPC, add(other, "e", 1))
	spoil(t, p.v, other, 3, "garbage")
	wantFull(t, p.v, api.EIO)
	v := shared(t, api.MaxFile, laid(l[:3]...)+"garbage\x00\x00\x00\x00\x00\x00\x00\x00\x00")
	wantFull(t, v, api.EIO)
}

// wantFull asks for the error of an Add to other, and that it changes nothing.
func wantFull(t *testing.T, v *file.Volume, want api.Errno) {
	t.Helper()
	was, _ := v.Inode(other)
	free := v.Free()
	if e := v.Do(func(s *file.Step) { dir.Of(s, other).Add("e", 1) }); e != want {
		t.Errorf("Add: %d, not %d", e, want)
	}
	if now, e := v.Inode(other); now != was || e != api.OK || v.Free() != free {
		t.Errorf("Add has changed %v to %v", was, now)
	}
}

// shared is a volume of which all pages of the directory other are one page, with that text: else no disk had so many.
func shared(t *testing.T, size int, text string) *file.Volume {
	t.Helper()
	d := formatted(t, 10)
	const at, numbers, above = dataAt, dataAt + 1, dataAt + 2
	var data, ind, dind, bits api.Page
	copy(data[:], text)
	for k := range 32 {
		binary.BigEndian.PutUint16(ind[2*k:], at)
		binary.BigEndian.PutUint16(dind[2*k:], numbers)
	}
	bits[0] = 7
	lay(d, at, data)
	lay(d, numbers, ind)
	lay(d, above, dind)
	lay(d, 42, bits)
	half := halfOf(d, other)
	binary.BigEndian.PutUint32(half[8:], uint32(size))
	for k, n := range []int{at, at, at, at, numbers, above} {
		binary.BigEndian.PutUint16(half[12+2*k:], uint16(n))
	}
	layHalf(d, other, half)
	return mounted(t, d)
}

func lay(d *disk.Disk, at int, p api.Page) {
	d.Write(at, p)
	d.Flush()
}

// halfOf is the bytes of an inode.
func halfOf(d *disk.Disk, ino int) []byte {
	p, _ := d.Read(43 + (ino-1)/2)
	return p[(ino-1)%2*32:][:32]
}

func layHalf(d *disk.Disk, ino int, half []byte) {
	p, _ := d.Read(43 + (ino-1)/2)
	copy(p[(ino-1)%2*32:], half)
	lay(d, 43+(ino-1)/2, p)
}

// P13.1: a directory that can't grow: EFBIG, which changes nothing. Room in the directory itself is enough.
func TestCannotGrow(t *testing.T) {
	full := laid(slot.Entry{Ino: 1, Name: "a"}, slot.Entry{Ino: 2, Name: "b"}, slot.Entry{Ino: 3, Name: "c"}, slot.Entry{Ino: 4, Name: "d"})
	for _, size := range []int{api.MaxFile, api.MaxFile + 64, 1<<32 - 64} {
		v := shared(t, size, full)
		wantFull(t, v, api.EFBIG)
		for _, c := range []call{add(other, "a", 1), add(other, "d", 1)} {
			wantFailure(t, v, "full", c, api.EEXIST)
		}
		wantFailure(t, v, "full", add(other, "e", 0), api.EINVAL)
		wantFailure(t, v, "full", add(other, "", 1), api.ENOENT)
		if l, e := dir.All(v, other); len(l) != 4240 || e != api.OK || l[4238] != (slot.Entry{Ino: 3, Name: "c"}) {
			t.Errorf("Size %d: All: %d, %d", size, len(l), e)
		}
	}
	v := shared(t, api.MaxFile, full)
	if e := v.Do(func(s *file.Step) {
		d := dir.Of(s, other)
		d.Remove("c")
		d.Add("e", 5)
		if d.Find("c") != 0 || d.Find("e") != 5 || s.Inode(other).Size != api.MaxFile {
			t.Error("a slot that was free")
		}
	}); e != api.OK {
		t.Error(e)
	}
	wantFull(t, v, api.EEXIST)
	if e := v.Do(func(s *file.Step) { dir.Of(s, other).Add("f", 1) }); e != api.EFBIG {
		t.Errorf("Add: %d", e)
	}
	v = shared(t, api.MaxFile-64, full)
	if e := v.Do(func(s *file.Step) { dir.Of(s, other).Add("e", 5) }); e != api.OK || size(t, v, other) != api.MaxFile {
		t.Errorf("the last page: %d", e)
	}
}

// P13.1: a page that isn't there is read as 0: its slots are empty. The first one is taken, and its page with it.
func TestPagesThatAreNotThere(t *testing.T) {
	for _, pages := range []int{1, 4, 5, 36, 37, 1060} {
		p := fresh(t, 20)
		if e := p.v.Do(func(s *file.Step) { s.Truncate(other, 64*pages) }); e != api.OK {
			t.Fatal(e)
		}
		p.m.slots[other] = make([]slot.Entry, 4*pages)
		p.must(t, all(other), isEmpty(other), find(other, "a"), find(other, ""))
		p.m.free--
		p.must(t, add(other, "a", 7))
	}
}

// P13.1: a Size that is no multiple of 64: its last page is filled up with 0, and EIO is only of a slot that is none. An Add to that page makes it whole.
func TestPartOfAPage(t *testing.T) {
	a, b := slot.Entry{Ino: 1, Name: "a"}, slot.Entry{Ino: 2, Name: "b"}
	for _, c := range []struct {
		size int
		want []slot.Entry
		e    api.Errno
	}{{16, []slot.Entry{a}, api.OK}, {20, []slot.Entry{a, b}, api.OK}, {19, nil, api.EIO}, {63, []slot.Entry{a, b}, api.OK}, {17, []slot.Entry{a}, api.OK}, {18, nil, api.EIO}, {3, nil, api.EIO}} {
		p := fresh(t, 10)
		if e := p.v.Do(func(s *file.Step) {
			s.Write(other, 0, laid(a, b))
			s.Truncate(other, c.size)
		}); e != api.OK {
			t.Fatal(e)
		}
		l, e := dir.All(p.v, other)
		if fmt.Sprint(l) != fmt.Sprint(c.want) || e != c.e {
			t.Errorf("Size %d: %v, %d, not %v, %d", c.size, l, e, c.want, c.e)
		}
		e = p.v.Do(func(s *file.Step) { dir.Of(s, other).Add("c", 3) })
		if e != c.e || e == api.OK && size(t, p.v, other) != 64 {
			t.Errorf("Size %d: Add: %d, Size %d", c.size, e, size(t, p.v, other))
		}
	}
}

// P13.1: an inode of a Kind that none is, on a spoilt disk, is taken, and no Dir.
func TestSpoiltKinds(t *testing.T) {
	for kind := range 256 {
		want := api.ENOTDIR
		switch kind {
		case api.None:
			want = api.EINVAL
		case api.Dir:
			want = api.OK
		}
		d := formatted(t, 10)
		half := halfOf(d, other)
		half[0] = byte(kind)
		layHalf(d, other, half)
		v := mounted(t, d)
		if e := v.Do(func(s *file.Step) { dir.Of(s, other) }); e != want {
			t.Errorf("Kind %d: %d, not %d", kind, e, want)
		}
		if n, e := dir.Find(v, other, "a"); n != 0 || e != want {
			t.Errorf("Kind %d: Find: %d, %d", kind, n, e)
		}
	}
}

// P13.1: a directory's page that no data page is: EIO, as layer 11 says it.
func TestSpoiltNumbers(t *testing.T) {
	d := formatted(t, 10)
	half := halfOf(d, other)
	binary.BigEndian.PutUint32(half[8:], 128)
	binary.BigEndian.PutUint16(half[14:], 43)
	layHalf(d, other, half)
	p := &pair{d: d, v: mounted(t, d)}
	wantError(t, p.v, other, api.EIO)
	for _, c := range eachCall(other) {
		wantFailure(t, p.v, "a number that is none", c, api.EIO)
	}
}
