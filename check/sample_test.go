package check_test

import (
	"encoding/binary"
	"fmt"
	"slices"
	"testing"

	"narthex/api"
	"narthex/check"
	"narthex/disk"
	"narthex/file"
	"narthex/tree"
)

// Where what lies on a disk, whatever its plan is.
const (
	inodeBitsAt = 41
	dataBitsAt  = 42
	tableAt     = 43
)

// The inodes of a sample: /dir with sub, which is empty, file, and 18 names of one; /hard, another name of file; /link; /big, a File with pages of all depths; /empty; /one. The others aren't taken.
const (
	root = 1 + iota
	aDir
	sub
	aFile
	aLink
	big
	empty
	one
	spare

	inodes = 11
	pages  = 150
	dataAt = tableAt + (inodes+1)/2
)

// bigPages are the pages that big has: those of its first two are Direct's, then two of Ind's, then three of Dind's, in two pages of numbers.
func bigPages() []int { return []int{0, 3, 4, 35, 36, 67, 1059} }

const bigSize = api.MaxFile - 10

func made(t *testing.T, pages, inodes int) (*disk.Disk, *tree.Tree) {
	t.Helper()
	d, e := disk.New(pages)
	if e != api.OK {
		t.Fatalf("New: %d", e)
	}
	for i := range pages { // Format leaves what stands on data pages
		var p api.Page
		for k := range p {
			p[k] = byte(i + 7*k)
		}
		d.Write(i, p)
	}
	if e := tree.Format(d, inodes); e != api.OK {
		t.Fatalf("Format: %d", e)
	}
	x, e := tree.Mount(d)
	if e != api.OK {
		t.Fatalf("Mount: %d", e)
	}
	return d, x
}

func mounted(t *testing.T, d *disk.Disk) *file.Volume {
	t.Helper()
	v, e := file.Mount(d)
	if e != api.OK {
		t.Fatalf("Mount: %d", e)
	}
	return v
}

// must asks that all went well: each is an error, or what is told beside one.
func must(t *testing.T, l ...any) {
	t.Helper()
	for _, x := range l {
		if e, is := x.(api.Errno); is && e != api.OK {
			t.Fatalf("%v", l)
		}
	}
}

// sample is a tree, all of which lasts.
func sample(t *testing.T) (*disk.Disk, *tree.Tree) {
	t.Helper()
	d, x := made(t, pages, inodes)
	makes := func(want int, a api.Attr, e api.Errno) {
		t.Helper()
		if e != api.OK || a.Ino != want {
			t.Fatalf("%v, %d, not %d", a, e, want)
		}
	}
	is := func(want int) func(api.Attr, api.Errno) {
		return func(a api.Attr, e api.Errno) { t.Helper(); makes(want, a, e) }
	}
	is(aDir)(x.Mkdir(root, "dir", 493, 7))
	is(sub)(x.Mkdir(aDir, "sub", 448, 8))
	is(aFile)(x.Create(aDir, "file", 420, 7))
	is(aFile)(x.Link(root, "hard", aFile))
	is(aLink)(x.Symlink(root, "link", "dir/file", 9))
	is(big)(x.Create(root, "big", 384, 65535))
	is(empty)(x.Mkdir(root, "empty", 511, 0))
	is(one)(x.Create(root, "one", 0, 1))
	for k := range 18 {
		is(one)(x.Link(aDir, fmt.Sprint("n", k), one))
	}
	must(t, x.Put(aFile, 60, "hello"), x.Put(one, 0, "one"))
	for _, i := range bigPages() {
		must(t, x.Put(big, 64*i, "big"))
	}
	must(t, x.Resize(big, bigSize), x.Sync())
	return d, x
}

// spoil is what is done to a disk's page.
type spoil struct {
	at int
	do func(p *api.Page)
}

// spoils lays what they do over a disk, and lets it last.
func spoils(d *disk.Disk, l ...spoil) {
	for _, s := range l {
		p, _ := d.Read(s.at)
		s.do(&p)
		d.Write(s.at, p)
	}
	d.Flush()
}

// spoilt is the sample's volume on a disk that was spoilt, and brought up again.
func spoilt(t *testing.T, l ...spoil) *file.Volume {
	t.Helper()
	d, _ := sample(t)
	spoils(d, l...)
	d.Crash()
	return mounted(t, d)
}

func turned(at, bit int) spoil {
	return spoil{at, func(p *api.Page) { p[bit/8] ^= 1 << (bit % 8) }}
}

func inodeBit(ino int) spoil { return turned(inodeBitsAt, ino-1) }

// dataBit turns the bit of a data page of the sample.
func dataBit(at int) spoil { return turned(dataBitsAt, at-dataAt) }

func bytesAt(at, from int, text string) spoil {
	return spoil{at, func(p *api.Page) { copy(p[from:], text) }}
}

// half is a place in an inode's half of its page.
func half(ino, from int) (at, in int) { return tableAt + (ino-1)/2, (ino-1)%2*32 + from }

// field lays a number of so many bytes over an inode.
func field(ino, from, size, n int) spoil {
	at, in := half(ino, from)
	var b [8]byte
	binary.BigEndian.PutUint64(b[:], uint64(n))
	return bytesAt(at, in, string(b[8-size:]))
}

func kind(ino, n int) spoil  { return field(ino, 0, 1, n) }
func perm(ino, n int) spoil  { return field(ino, 2, 2, n) }
func links(ino, n int) spoil { return field(ino, 6, 2, n) }
func size(ino, n int) spoil  { return field(ino, 8, 4, n) }

// The page numbers that stand in an inode: from 0 on Direct's, then Ind, then Dind.
const (
	ind  = 4
	dind = 5
)

func leads(ino, k, n int) spoil { return field(ino, 12+2*k, 2, n) }

// number lays a number over a page of numbers.
func number(at, k, n int) spoil { return bytesAt(at, 2*k, string([]byte{byte(n >> 8), byte(n)})) }

// entry lays an entry over a page's slot; of inode 0 it makes it empty.
func entry(at, i, ino int, name string) spoil {
	b := make([]byte, 16)
	if ino != 0 {
		b[0], b[1], b[2] = byte(ino>>8), byte(ino), byte(len(name))
		copy(b[3:], name)
	}
	return bytesAt(at, 16*i, string(b))
}

// at is the page to which an inode's number leads, and then, from page to page, those at these places.
func at(t *testing.T, v *file.Volume, ino, k int, places ...int) int {
	t.Helper()
	p, e := v.Page(tableAt + (ino-1)/2)
	must(t, e)
	n := int(binary.BigEndian.Uint16(p[(ino-1)%2*32+12+2*k:]))
	for _, i := range places {
		q, e := v.Page(n)
		must(t, e)
		n = int(binary.BigEndian.Uint16(q[2*i:]))
	}
	if n < dataAt {
		t.Fatalf("inode %d has no page %d %v", ino, k, places)
	}
	return n
}

// where is that page of the sample: each sample is the same.
func where(t *testing.T, ino, k int, places ...int) int {
	t.Helper()
	_, x := sample(t)
	return at(t, x.Volume(), ino, k, places...)
}

// seen is all that can be read of a volume, and how many there are of what.
func seen(v *file.Volume) string {
	l := make([]api.Page, v.Plan().Pages)
	for i := range l {
		l[i], _ = v.Page(i)
	}
	return fmt.Sprint(l, v.Free(), v.Spare(), v.Over())
}

// has asks for just these problems, that the model tells the same, and that nothing is changed by looking.
func has(t *testing.T, what string, v *file.Volume, want ...check.Problem) {
	t.Helper()
	before := seen(v)
	for range 2 {
		l, e := check.Volume(v)
		if e != api.OK || !slices.Equal(l, want) || len(l) == 0 && l != nil {
			t.Fatalf("%s: %v, %d, not %v", what, l, e, want)
		}
		if told := modelOf(v); !slices.Equal(told, want) {
			t.Fatalf("%s: the model tells %v, not %v", what, told, want)
		}
		if clean := check.Clean(v); clean != isClean(v, want) {
			t.Fatalf("%s: Clean is %v, with %v", what, clean, want)
		}
	}
	if seen(v) != before {
		t.Fatalf("%s: something has changed", what)
	}
}

// isClean tells whether all problems are inodes' that are there and have no Links.
func isClean(v *file.Volume, l []check.Problem) bool {
	for _, p := range l {
		x, e := v.Inode(p.Ino)
		if p.Ino == 0 || e != api.OK || x.Kind == 0 || x.Links > 0 {
			return false
		}
	}
	return true
}

func ofInode(kind, ino int) check.Problem { return check.Problem{Kind: kind, Ino: ino} }

func ofPage(kind, n int) check.Problem { return check.Problem{Kind: kind, N: n} }

func of(kind, ino, n int) check.Problem { return check.Problem{Kind: kind, Ino: ino, N: n} }

// lost is all these pages, in their order.
func lost(l ...int) (all []check.Problem) {
	slices.Sort(l)
	for _, n := range l {
		all = append(all, ofPage(check.Lost, n))
	}
	return all
}

func ordered(l ...int) []int {
	slices.Sort(l)
	return l
}
