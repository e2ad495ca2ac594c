package inode_test

import (
	"math"

	"narthex/api"
	"narthex/inode"
	"narthex/plan"
)

// field is one number of an inode: which bytes of a half are its (the document's, written out), how it is reached, and up to where it is right; of a page number, most is 0.
type field struct {
	name     string
	at, size int
	most     int
	of       func(*inode.Inode) *int
}

// isPage tells page numbers apart: they are right by the plan.
func (f field) isPage() bool { return f.most == 0 }

func fields() []field {
	return []field{
		{"Kind", 0, 1, 3, func(i *inode.Inode) *int { return &i.Kind }},
		{"Perm", 2, 2, 511, func(i *inode.Inode) *int { return &i.Perm }},
		{"Uid", 4, 2, 65535, func(i *inode.Inode) *int { return &i.Uid }},
		{"Links", 6, 2, 40, func(i *inode.Inode) *int { return &i.Links }},
		{"Size", 8, 4, 67840, func(i *inode.Inode) *int { return &i.Size }},
		{"Direct[0]", 12, 2, 0, func(i *inode.Inode) *int { return &i.Direct[0] }},
		{"Direct[1]", 14, 2, 0, func(i *inode.Inode) *int { return &i.Direct[1] }},
		{"Direct[2]", 16, 2, 0, func(i *inode.Inode) *int { return &i.Direct[2] }},
		{"Direct[3]", 18, 2, 0, func(i *inode.Inode) *int { return &i.Direct[3] }},
		{"Ind", 20, 2, 0, func(i *inode.Inode) *int { return &i.Ind }},
		{"Dind", 22, 2, 0, func(i *inode.Inode) *int { return &i.Dind }},
	}
}

// with is the inode with one number changed.
func with(i inode.Inode, f field, n int) inode.Inode {
	*f.of(&i) = n
	return i
}

// byteOf is the k-th lowest byte of a number, by division that rounds down, another way than the program's.
func byteOf(n, k int) byte {
	for range k {
		q := n / 256
		if n%256 < 0 {
			q--
		}
		n = q
	}
	return byte((n%256 + 256) % 256)
}

// wantPut is what Put ought to tell, byte by byte.
func wantPut(x api.Page, half int, i inode.Inode) api.Page {
	if half != 0 && half != 1 {
		return x
	}
	var bytes [32]byte
	for _, f := range fields() {
		for k := range f.size {
			bytes[f.at+f.size-1-k] = byteOf(*f.of(&i), k)
		}
	}
	for k, c := range bytes {
		x[32*half+k] = c
	}
	return x
}

// wantGet is what Get ought to tell, added up byte by byte.
func wantGet(x api.Page, half int) (i inode.Inode) {
	if half != 0 && half != 1 {
		return i
	}
	for _, f := range fields() {
		for k := range f.size {
			n := f.of(&i)
			*n = *n*256 + int(x[32*half+f.at+k])
		}
	}
	return i
}

// wantRight is what Right ought to tell in a plan whose data pages are those from data on, ahead of pages; none: it isn't right.
func wantRight(i inode.Inode, data, pages int) bool {
	if data >= pages || i.Kind < 0 || i.Kind > 3 {
		return false
	}
	for _, f := range fields() {
		n := *f.of(&i)
		switch {
		case f.name == "Kind" || n == 0:
		case i.Kind == 0:
			return false
		case f.isPage() && (n < data || n >= pages):
			return false
		case !f.isPage() && (n < 0 || n > f.most):
			return false
		}
	}
	return true
}

// planned is a right plan, and where its data pages begin, written out.
type planned struct {
	plan plan.Plan
	data int
}

func somePlans() []planned {
	return []planned{
		{plan.Plan{Pages: 60, Inodes: 4}, 45},
		{plan.Plan{Pages: 100, Inodes: 10}, 48},
		{plan.Plan{Pages: 100, Inodes: 9}, 48},
		{plan.Plan{Pages: 45, Inodes: 1}, 44}, // a single data page
		{plan.Plan{Pages: 108, Inodes: 128}, 107},
		{plan.Plan{Pages: 300, Inodes: 7}, 47},
		{plan.Plan{Pages: 512, Inodes: 1}, 44},
		{plan.Plan{Pages: 512, Inodes: 128}, 107},
	}
}

// wrongPlans are just beyond an edge, or far beyond one; the lowest bytes of some are those of right ones.
func wrongPlans() []plan.Plan {
	return []plan.Plan{
		{}, {Pages: 44, Inodes: 1}, {Pages: 44, Inodes: 2}, {Pages: 45, Inodes: 3}, {Pages: 107, Inodes: 128}, {Pages: 513, Inodes: 1}, {Pages: 513, Inodes: 128},
		{Pages: 100, Inodes: 0}, {Pages: 100, Inodes: -1}, {Pages: 512, Inodes: 129}, {Pages: 0, Inodes: 1}, {Pages: -1, Inodes: 1}, {Pages: -60, Inodes: -4},
		{Pages: 60 + 65536, Inodes: 4}, {Pages: 60, Inodes: 4 + 65536}, {Pages: 512, Inodes: 256 + 4},
		{Pages: math.MaxInt, Inodes: 1}, {Pages: math.MinInt, Inodes: 1}, {Pages: 100, Inodes: math.MaxInt}, {Pages: 100, Inodes: math.MinInt}, {Pages: math.MaxInt, Inodes: math.MaxInt}, {Pages: math.MinInt, Inodes: math.MinInt},
	}
}

// wideInts are numbers beyond all edges; the lowest bytes of some are those of a right number.
func wideInts() []int {
	return []int{math.MinInt, math.MinInt + 1, math.MinInt + 50, -1 << 32, -1<<32 + 50, math.MinInt32, -65536, -65536 + 50, -65535, -32768, -513, -512, -511, -257, -256, -255, -129, -128, -60, -50, -40, -3, -2, -1,
		65536, 65537, 65536 + 50, 67839, 67840, 67841, 131072, 1 << 24, 1<<24 + 3, 1<<31 - 1, 1 << 31, 1<<31 + 50, 1<<32 - 1, 1 << 32, 1<<32 + 1, 1<<32 + 50, 1 << 40, 1<<48 + 50, 1<<56 + 1,
		math.MaxInt - 50, math.MaxInt - 1, math.MaxInt}
}

// wrongHalves aren't there; the places of some of them would wrap round into the page.
func wrongHalves() []int {
	return []int{math.MinInt, math.MinInt + 1, -1 << 59, -1<<59 + 1, -1 << 32, -256, -65, -64, -32, -3, -2, -1, 2, 3, 4, 31, 32, 33, 63, 64, 65, 255, 256, 257, 1 << 31, 1 << 32, 1<<32 + 1, 1 << 58, 1 << 59, 1<<59 + 1, 1 << 60, 1<<60 + 1, 1 << 62, math.MaxInt - 1, math.MaxInt}
}

// noise is numbers that look like chance, the same in each run.
type noise struct{ seed uint64 }

func (n *noise) next() uint64 {
	n.seed = n.seed*6364136223846793005 + 1442695040888963407
	return n.seed ^ n.seed>>33
}

func (n *noise) page() (x api.Page) {
	for k := range x {
		x[k] = byte(n.next() >> 20)
	}
	return x
}

// inode has numbers of all sizes, right ones and wrong ones, below 0 too.
func (n *noise) inode() (i inode.Inode) {
	for _, f := range fields() {
		*f.of(&i) = int(n.next()) >> (n.next() >> 20 % 64)
	}
	return i
}

// somePages are zero, full, rising, falling, and noisy ones.
func somePages() []api.Page {
	var zero, full, rising, falling api.Page
	for k := range full {
		full[k], rising[k], falling[k] = 255, byte(k+1), byte(200-k)
	}
	n := noise{7}
	return []api.Page{zero, full, rising, falling, n.page(), n.page(), n.page()}
}
