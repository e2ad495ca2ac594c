package file

import (
	"strings"

	"narthex/api"
	"narthex/inode"
	"narthex/page"
	"narthex/plan"
	"narthex/span"
	"narthex/store"
)

// base is what a volume and its steps stand on: pages, and where what lies on them.
type base struct {
	store *store.Store
	plan  plan.Plan
}

// piece is bytes that stand together in one of a file's pages.
type piece struct{ index, at, size int }

// inode is the zero one, if it isn't taken, whatever else stands in its place.
func (b base) inode(i int) (inode.Inode, api.Errno) {
	at, half := b.plan.Place(i)
	if at == 0 {
		return inode.Inode{}, api.EINVAL
	}
	p, e := b.store.Read(at)
	if e != api.OK {
		return inode.Inode{}, e
	}
	x := inode.Get(p, half)
	if x.Kind == api.None {
		return inode.Inode{}, api.OK
	}
	return x, api.OK
}

// taken is an inode that must be taken.
func (b base) taken(i int) (inode.Inode, api.Errno) {
	x, e := b.inode(i)
	if e == api.OK && x.Kind == api.None {
		return inode.Inode{}, api.EINVAL
	}
	return x, e
}

func (b base) read(i, off, n int) (string, api.Errno) {
	x, e := b.taken(i)
	if e != api.OK {
		return "", e
	}
	if off < 0 || n < 0 || n > api.MaxFile {
		return "", api.EINVAL
	}
	var text strings.Builder
	for _, c := range pieces(off, min(n, x.Size-off)) {
		p, e := b.filePage(x, c.index)
		if e != api.OK {
			return "", e
		}
		text.WriteString(page.Text(p, c.at, c.size))
	}
	return text.String(), api.OK
}

// filePage is a file's page, found by its inode.
func (b base) filePage(x inode.Inode, index int) (api.Page, api.Errno) {
	n, e := b.find(x, index)
	if e != api.OK {
		return api.Page{}, e
	}
	return b.data(n)
}

// find is the number of a file's page; 0, if it isn't there.
func (b base) find(x inode.Inode, index int) (int, api.Errno) {
	first, places := way(&x, index)
	n := *first
	for _, k := range places {
		p, e := b.data(n)
		if e != api.OK {
			return 0, e
		}
		n = span.Number(p, k)
	}
	return n, api.OK
}

// data is the page that a file has by a number. No other page than a data page is a file's, whatever a spoilt disk tells: what is written there must not reach the super page, or inodes.
func (b base) data(n int) (api.Page, api.Errno) {
	if n == 0 {
		return api.Page{}, api.OK
	}
	if b.plan.Bit(n) < 0 {
		return api.Page{}, api.EIO
	}
	return b.store.Read(n)
}

// way is by which numbers a file's page is found: the first one stands in the inode, each further one at its place in the page that the one ahead of it tells.
func way(x *inode.Inode, index int) (first *int, places []int) {
	w, there := span.Where(index)
	switch {
	case !there: // only a spoilt Size reaches so far
		return new(int), nil
	case w.Depth == 0:
		return &x.Direct[w.Inner], nil
	case w.Depth == 1:
		return &x.Ind, []int{w.Inner}
	}
	return &x.Dind, []int{w.Outer, w.Inner}
}

// pieces are the n bytes from off on, page by page; none, if n isn't above 0.
func pieces(off, n int) []piece {
	var l []piece
	for n > 0 {
		c := piece{index: off / api.PageSize, at: off % api.PageSize}
		c.size = min(n, api.PageSize-c.at)
		l = append(l, c)
		off, n = off+c.size, n-c.size
	}
	return l
}
