package inode_test

import (
	"math"
	"slices"
	"testing"

	"narthex/api"
	"narthex/inode"
	"narthex/plan"
)

// whole has another byte in each place of its half that isn't 0.
func whole() inode.Inode {
	return inode.Inode{Kind: 1, Perm: 0x0203, Uid: 0x0405, Links: 0x0607, Size: 0x08090a0b, Direct: [4]int{0x0c0d, 0x0e0f, 0x1011, 0x1213}, Ind: 0x1415, Dind: 0x1617}
}

// someInodes are right ones, wrong ones, and what fills its half.
func someInodes() []inode.Inode {
	l := []inode.Inode{
		{},
		whole(),
		{Kind: api.File, Perm: 420, Uid: 258, Links: 3, Size: 0x010203, Direct: [4]int{50, 0, 51, 0}, Ind: 52, Dind: 53},
		{Kind: api.Dir, Perm: 493, Links: 2},
		{Kind: api.Link, Perm: 511, Uid: 65535, Links: 40, Size: 67840, Direct: [4]int{511, 511, 511, 511}, Ind: 511, Dind: 511},
		{Kind: 255, Perm: 65535, Uid: 65535, Links: 65535, Size: 1<<32 - 1, Direct: [4]int{65535, 65535, 65535, 65535}, Ind: 65535, Dind: 65535},
		{Kind: 256, Perm: 65536, Uid: 65536, Links: 65536, Size: 1 << 32, Direct: [4]int{65536, 65536, 65536, 65536}, Ind: 65536, Dind: 65536},
		{Kind: -1, Perm: -1, Uid: -1, Links: -1, Size: -1, Direct: [4]int{-1, -1, -1, -1}, Ind: -1, Dind: -1},
	}
	n := noise{3}
	for range 200 {
		l = append(l, n.inode())
	}
	return l
}

// P9.1: the document's example.
func TestExample(t *testing.T) {
	x := inode.Put(api.Page{}, 1, inode.Inode{Kind: api.Dir, Links: 2})
	if want := (api.Page{32: 2, 39: 2}); x != want {
		t.Errorf("the page is %v, not %v", x, want)
	}
	if got := inode.Get(x, 1); got != (inode.Inode{Kind: api.Dir, Links: 2}) {
		t.Errorf("Get: %+v", got)
	}
}

// P9.1: each byte of a half, written out, over pages of other bytes.
func TestPutKnown(t *testing.T) {
	want := "\x01\x00\x02\x03\x04\x05\x06\x07\x08\x09\x0a\x0b\x0c\x0d\x0e\x0f\x10\x11\x12\x13\x14\x15\x16\x17\x00\x00\x00\x00\x00\x00\x00\x00"
	for _, x := range somePages() {
		for half := range 2 {
			y := inode.Put(x, half, whole())
			mine, other := 32*half, 32-32*half
			if got := string(y[mine : mine+32]); got != want {
				t.Errorf("half %d: %q, not %q", half, got, want)
			}
			if string(y[other:other+32]) != string(x[other:other+32]) {
				t.Errorf("half %d: of the other one came %v of %v", half, y[other:other+32], x[other:other+32])
			}
			if got := inode.Get(y, half); got != whole() {
				t.Errorf("half %d: Get is %+v", half, got)
			}
		}
	}
}

// P9.1: the numbers' lowest bytes, where they are too great or below 0.
func TestPutKnownLowestBytes(t *testing.T) {
	for _, c := range []struct {
		name string
		n    int
		want string
	}{
		{"Kind", 256, "\x00"},
		{"Kind", 257, "\x01"},
		{"Kind", 0x1234, "\x34"},
		{"Kind", -1, "\xff"},
		{"Kind", -255, "\x01"},
		{"Kind", -256, "\x00"},
		{"Perm", 65536, "\x00\x00"},
		{"Uid", 65537, "\x00\x01"},
		{"Links", 0x123456, "\x34\x56"},
		{"Direct[0]", -1, "\xff\xff"},
		{"Direct[3]", -2, "\xff\xfe"},
		{"Ind", -65535, "\x00\x01"},
		{"Dind", math.MaxInt, "\xff\xff"},
		{"Dind", math.MinInt, "\x00\x00"},
		{"Size", 1 << 32, "\x00\x00\x00\x00"},
		{"Size", 0x123456789a, "\x34\x56\x78\x9a"},
		{"Size", -1, "\xff\xff\xff\xff"},
		{"Size", -256, "\xff\xff\xff\x00"},
		{"Size", math.MinInt + 1, "\x00\x00\x00\x01"},
		{"Size", math.MaxInt, "\xff\xff\xff\xff"},
	} {
		for _, f := range fields() {
			if f.name != c.name {
				continue
			}
			for half := range 2 {
				var want api.Page
				copy(want[32*half+f.at:], c.want)
				if got := inode.Put(api.Page{}, half, with(inode.Inode{}, f, c.n)); got != want {
					t.Errorf("half %d: Put of the %s %d: %v, not %v", half, c.name, c.n, got, want)
				}
			}
		}
	}
}

// P9.1: each number alone, all values up to beyond two bytes and far ones, on a full page and a zero one: its bytes are all that hangs on it.
func TestPutOfEachNumber(t *testing.T) {
	var full api.Page
	for k := range full {
		full[k] = 255
	}
	var values []int
	for n := -600; n < 600; n++ {
		values = append(values, n)
	}
	for n := 600; n < 70000; n += 61 {
		values = append(values, n)
	}
	values = slices.Concat(values, []int{65534, 65535}, wideInts())
	for _, f := range fields() {
		for _, n := range values {
			for half := range 2 {
				for _, i := range []inode.Inode{with(inode.Inode{}, f, n), with(whole(), f, n)} {
					for _, x := range []api.Page{{}, full} {
						if got, want := inode.Put(x, half, i), wantPut(x, half, i); got != want {
							t.Fatalf("half %d: Put of %+v: %v, not %v", half, i, got, want)
						}
					}
				}
			}
		}
	}
}

// P9.1: any inode over any page, in both halves, one behind the other.
func TestPutOfAnyInodes(t *testing.T) {
	for _, i := range someInodes() {
		for _, x := range somePages() {
			for half := range 2 {
				y := inode.Put(x, half, i)
				if want := wantPut(x, half, i); y != want {
					t.Fatalf("half %d: Put of %+v over %v: %v, not %v", half, i, x, y, want)
				}
				if again := inode.Put(y, half, i); again != y {
					t.Fatalf("half %d: Put of %+v a second time: %v, not %v", half, i, again, y)
				}
				z := inode.Put(y, 1-half, whole())
				if want := wantPut(y, 1-half, whole()); z != want {
					t.Fatalf("half %d: Put beside %+v: %v, not %v", 1-half, i, z, want)
				}
				if got, want := inode.Get(z, half), wantGet(y, half); got != want {
					t.Fatalf("half %d: Get is %+v behind a Put into the other one, not %+v", half, got, want)
				}
			}
		}
	}
}

// P9.1: the zero inode empties its half, whatever stood there.
func TestPutOfNone(t *testing.T) {
	for _, x := range somePages() {
		for half := range 2 {
			want := x
			for k := range 32 {
				want[32*half+k] = 0
			}
			if got := inode.Put(x, half, inode.Inode{}); got != want {
				t.Errorf("half %d: Put of the zero inode over %v: %v", half, x, got)
			}
		}
	}
}

// P9.1: of halves that aren't there: the page as it is, and the zero inode.
func TestOtherHalves(t *testing.T) {
	for _, half := range wrongHalves() {
		for _, x := range somePages() {
			for _, i := range someInodes()[:10] {
				if got := inode.Put(x, half, i); got != x {
					t.Fatalf("Put of %+v into half %d of %v: %v", i, half, x, got)
				}
			}
			if got := inode.Get(x, half); got != (inode.Inode{}) {
				t.Fatalf("Get of half %d of %v: %+v", half, x, got)
			}
		}
	}
}

// P9.1: bytes that are written out; what is right is not asked, nor what ought to be 0.
func TestGetKnown(t *testing.T) {
	var full, rising api.Page
	for k := range full {
		full[k], rising[k] = 255, byte(k)
	}
	for _, c := range []struct {
		x    api.Page
		half int
		want inode.Inode
	}{
		{api.Page{}, 0, inode.Inode{}},
		{api.Page{}, 1, inode.Inode{}},
		{full, 0, inode.Inode{Kind: 255, Perm: 65535, Uid: 65535, Links: 65535, Size: 1<<32 - 1, Direct: [4]int{65535, 65535, 65535, 65535}, Ind: 65535, Dind: 65535}},
		{full, 1, inode.Inode{Kind: 255, Perm: 65535, Uid: 65535, Links: 65535, Size: 1<<32 - 1, Direct: [4]int{65535, 65535, 65535, 65535}, Ind: 65535, Dind: 65535}},
		{rising, 0, inode.Inode{Kind: 0, Perm: 0x0203, Uid: 0x0405, Links: 0x0607, Size: 0x08090a0b, Direct: [4]int{0x0c0d, 0x0e0f, 0x1011, 0x1213}, Ind: 0x1415, Dind: 0x1617}},
		{rising, 1, inode.Inode{Kind: 0x20, Perm: 0x2223, Uid: 0x2425, Links: 0x2627, Size: 0x28292a2b, Direct: [4]int{0x2c2d, 0x2e2f, 0x3031, 0x3233}, Ind: 0x3435, Dind: 0x3637}},
		{api.Page{0: 1, 1: 7, 3: 5, 24: 9, 31: 9, 32: 3}, 0, inode.Inode{Kind: 1, Perm: 5}},
		{api.Page{0: 1, 1: 7, 3: 5, 24: 9, 31: 9, 32: 3}, 1, inode.Inode{Kind: 3}},
	} {
		if got := inode.Get(c.x, c.half); got != c.want {
			t.Errorf("Get of half %d of %v: %+v, not %+v", c.half, c.x, got, c.want)
		}
	}
}

// P9.1: each byte of a page, each value: one number of one half hangs on it, or none.
func TestGetOfEachByte(t *testing.T) {
	for _, x := range somePages() {
		for k := range x {
			for c := range 256 {
				y := x
				y[k] = byte(c)
				for half := range 2 {
					if got, want := inode.Get(y, half), wantGet(y, half); got != want {
						t.Fatalf("Get of half %d of %v: %+v, not %+v", half, y, got, want)
					}
				}
				if got, was := inode.Get(y, 1-k/32), inode.Get(x, 1-k/32); got != was {
					t.Fatalf("byte %d changed the other half: %+v, not %+v", k, got, was)
				}
			}
		}
	}
}

// P9.1: any bytes at all.
func TestGetOfAnyBytes(t *testing.T) {
	n := noise{11}
	for range 5000 {
		x := n.page()
		for half := range 2 {
			if got, want := inode.Get(x, half), wantGet(x, half); got != want {
				t.Fatalf("Get of half %d of %v: %+v, not %+v", half, x, got, want)
			}
		}
	}
}

// P9.1: what is right comes back from its half, as does what stands in the other one.
func TestRightComesBack(t *testing.T) {
	p := plan.Plan{Pages: 512, Inodes: 4}
	base := inode.Inode{Kind: api.File, Perm: 420, Uid: 1000, Links: 1, Size: 67000, Direct: [4]int{45, 46, 47, 48}, Ind: 300, Dind: 511}
	beside := inode.Inode{Kind: api.Dir, Perm: 493, Uid: 65535, Links: 40, Size: 64, Direct: [4]int{99, 0, 0, 0}, Ind: 45, Dind: 256}
	for _, f := range fields() {
		for n := range max(f.most, 511) + 1 {
			i := with(base, f, n)
			if !inode.Right(i, p) {
				continue
			}
			for half := range 2 {
				x := inode.Put(inode.Put(api.Page{}, 1-half, beside), half, i)
				if got := inode.Get(x, half); got != i {
					t.Fatalf("half %d: %+v came back as %+v", half, i, got)
				}
				if got := inode.Get(x, 1-half); got != beside {
					t.Fatalf("half %d: beside it came %+v back, not %+v", half, got, beside)
				}
			}
		}
	}
	for half := range 2 {
		x := inode.Put(somePages()[1], half, inode.Inode{})
		if got := inode.Get(x, half); got != (inode.Inode{}) {
			t.Errorf("half %d: the zero inode came back as %+v", half, got)
		}
	}
}

// P9.1: what is handed in stays as it was.
func TestWhatIsHandedInStays(t *testing.T) {
	for _, i := range someInodes() {
		for _, x := range somePages() {
			wasI, wasX, p := i, x, plan.Plan{Pages: 60, Inodes: 4}
			for _, half := range []int{-1, 0, 1, 2} {
				inode.Put(x, half, i)
				inode.Get(x, half)
			}
			inode.Right(i, p)
			inode.Attr(3, i)
			if i != wasI || x != wasX || p != (plan.Plan{Pages: 60, Inodes: 4}) {
				t.Fatalf("%+v, %v and %+v were %+v and %v", i, x, p, wasI, wasX)
			}
		}
	}
}

// P9.1: Attr tells each number as it is, whatever it is, and the page numbers not at all.
func TestAttr(t *testing.T) {
	inodes := someInodes()
	for _, f := range fields() {
		for _, n := range wideInts() {
			inodes = append(inodes, with(inode.Inode{}, f, n))
		}
	}
	for _, i := range inodes {
		for _, ino := range slices.Concat([]int{0, 1, 2, 7, 127, 128, 129}, wideInts()) {
			got := inode.Attr(ino, i)
			if got.Ino != ino || got.Kind != i.Kind || got.Perm != i.Perm || got.Uid != i.Uid || got.Links != i.Links || got.Size != i.Size {
				t.Fatalf("Attr(%d, %+v) is %+v", ino, i, got)
			}
		}
	}
	if got := inode.Attr(7, whole()); got != (api.Attr{Ino: 7, Kind: 1, Perm: 0x0203, Uid: 0x0405, Links: 0x0607, Size: 0x08090a0b}) {
		t.Errorf("Attr: %+v", got)
	}
	if got := inode.Attr(0, inode.Inode{}); got != (api.Attr{}) {
		t.Errorf("Attr of nothing: %+v", got)
	}
}
