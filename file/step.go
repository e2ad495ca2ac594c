package file

import (
	"narthex/api"
	"narthex/bits"
	"narthex/inode"
	"narthex/page"
	"narthex/span"
)

// Step is a step that is being done.
type Step struct {
	base
	doing  bool // else nobody would recover what it panics with
	failed api.Errno
}

// failure is what a step that fails panics with.
type failure struct{ step *Step }

// Fail lets the step fail.
func (s *Step) Fail(e api.Errno) {
	if !s.goesOn() {
		return
	}
	if e == api.OK {
		e = api.EINVAL
	}
	s.failed = e
	panic(failure{s})
}

// Inode is an inode.
func (s *Step) Inode(i int) inode.Inode {
	if !s.goesOn() {
		return inode.Inode{}
	}
	x, e := s.inode(i)
	s.must(e)
	return x
}

// Change changes an inode.
func (s *Step) Change(i int, x inode.Inode) {
	if !s.goesOn() {
		return
	}
	was := s.mustTaken(i)
	s.set(i, s.mustRight(withPages(x, was)))
}

// New takes an inode.
func (s *Step) New(x inode.Inode) int {
	if !s.goesOn() {
		return 0
	}
	x = s.mustRight(withPages(x, inode.Inode{}))
	i := s.leastSpare()
	s.set(i, x)
	s.mark(s.plan.InodeBits(), inodeBit(i), true)
	return i
}

// Release releases an inode.
func (s *Step) Release(i int) {
	if !s.goesOn() {
		return
	}
	s.cutFile(s.mustTaken(i), 0)
	s.set(i, inode.Inode{})
	s.mark(s.plan.InodeBits(), inodeBit(i), false)
}

// Read is bytes of a file.
func (s *Step) Read(i, off, n int) string {
	if !s.goesOn() {
		return ""
	}
	text, e := s.read(i, off, n)
	s.must(e)
	return text
}

// Write writes bytes of a file.
func (s *Step) Write(i, off int, text string) {
	if !s.goesOn() {
		return
	}
	x := s.mustTaken(i)
	switch {
	case off < 0:
		s.Fail(api.EINVAL)
	case text == "":
		return
	case off > api.MaxFile-len(text): // the greatest numbers would wrap round, if they were added to
		s.Fail(api.EFBIG)
	}
	x.Size = max(x.Size, off+len(text))
	for _, c := range pieces(off, len(text)) {
		n := s.reach(&x, c.index)
		s.put(n, page.SetText(s.mustData(n), c.at, text[:c.size]))
		text = text[c.size:]
	}
	s.set(i, x)
}

// Truncate sets how many bytes a file has.
func (s *Step) Truncate(i, size int) {
	if !s.goesOn() {
		return
	}
	x := s.mustTaken(i)
	switch {
	case size < 0:
		s.Fail(api.EINVAL)
	case size > api.MaxFile:
		s.Fail(api.EFBIG)
	}
	x = s.cutFile(x, span.Pages(size))
	s.blank(x, size)
	x.Size = size
	s.set(i, x)
}

// run is what a step's function fails with. Panics that aren't this step's go on.
func (s *Step) run(f func(s *Step)) (e api.Errno) {
	s.doing = true
	defer func() {
		s.doing = false
		switch x := recover().(type) {
		case nil:
			// A function that recovers a failure by itself has failed all the same.
			e = s.failed
		case failure:
			if x.step != s {
				panic(x)
			}
			e = s.failed
		default:
			panic(x)
		}
	}()
	if f != nil {
		f(s)
	}
	return api.OK
}

// goesOn is asked by each call: of a step that isn't being done none does anything, and one that failed fails again.
func (s *Step) goesOn() bool {
	if s == nil || !s.doing {
		return false
	}
	if s.failed != api.OK {
		panic(failure{s})
	}
	return true
}

func (s *Step) must(e api.Errno) {
	if e != api.OK {
		s.Fail(e)
	}
}

func (s *Step) mustTaken(i int) inode.Inode {
	x, e := s.taken(i)
	s.must(e)
	return x
}

func (s *Step) mustRight(x inode.Inode) inode.Inode {
	if x.Kind == api.None || !inode.Right(x, s.plan) {
		s.Fail(api.EINVAL)
	}
	return x
}

func (s *Step) mustData(n int) api.Page {
	p, e := s.data(n)
	s.must(e)
	return p
}

func (s *Step) page(at int) api.Page {
	p, e := s.store.Read(at)
	s.must(e)
	return p
}

func (s *Step) put(at int, p api.Page) { s.must(s.store.Put(at, p)) }

// set takes none of the step's room for an inode that is as it was.
func (s *Step) set(i int, x inode.Inode) {
	at, half := s.plan.Place(i)
	was := s.page(at)
	if p := inode.Put(was, half, x); p != was {
		s.put(at, p)
	}
}

// mark sets a bit in a page of bits.
func (s *Step) mark(at, bit int, on bool) {
	s.put(at, bits.Set(bit, on, s.page(at))[0])
}

func (s *Step) leastSpare() int {
	for i := api.Root; i <= s.plan.Inodes; i++ {
		x, e := s.inode(i)
		s.must(e)
		if x.Kind == api.None {
			return i
		}
	}
	s.Fail(api.ENOSPC)
	return 0
}

// take is the free page with the least bit. It has its last owner's bytes still: they are blanked out.
func (s *Step) take() int {
	at := s.plan.DataBits()
	bit := bits.First(0, s.plan.Room(), s.page(at))
	if bit < 0 {
		s.Fail(api.ENOSPC)
	}
	s.mark(at, bit, true)
	n := s.plan.At(bit)
	s.put(n, api.Page{})
	return n
}

// reach is the number of a file's page. What isn't there on the way to it is taken, and told by the inode.
func (s *Step) reach(x *inode.Inode, index int) int {
	first, places := way(x, index)
	if *first == 0 {
		*first = s.take()
	}
	n := *first
	for _, k := range places {
		p := s.mustData(n)
		next := span.Number(p, k)
		if next == 0 {
			next = s.take()
			s.put(n, span.SetNumber(p, k, next))
		}
		n = next
	}
	return n
}

// cutFile frees a file's pages from one on.
func (s *Step) cutFile(x inode.Inode, from int) inode.Inode {
	for k, n := range x.Direct {
		x.Direct[k] = s.cut(n, 1, from-k)
	}
	x.Ind = s.cut(x.Ind, api.PerPage, from-api.Direct)
	x.Dind = s.cut(x.Dind, api.PerPage*api.PerPage, from-api.Direct-api.PerPage)
	return x
}

// cut frees, of so many of a file's pages that are found by the number n, those from one on, and is what the number is then: 0, if it leads to none any more, for it is freed, too.
func (s *Step) cut(n, pages, from int) int {
	if from >= pages {
		return n
	}
	// None, or none that could be freed: a spoilt disk's inodes are released, too.
	if s.plan.Bit(n) < 0 {
		if from > 0 {
			return n
		}
		return 0
	}
	if pages > 1 && s.cutNumbers(n, pages/api.PerPage, from) {
		return n
	}
	s.mark(s.plan.DataBits(), s.plan.Bit(n), false)
	return 0
}

// cutNumbers cuts what a page's numbers lead to, so many pages each, and tells whether a number is left.
func (s *Step) cutNumbers(n, pages, from int) bool {
	was := s.page(n)
	p := was
	for k, m := range span.Numbers(was) {
		p = span.SetNumber(p, k, s.cut(m, pages, from-k*pages))
	}
	if page.Zero(p) {
		return false
	}
	if p != was {
		s.put(n, p)
	}
	return true
}

// blank lets the bytes behind a size be 0 in the page where it ends.
func (s *Step) blank(x inode.Inode, size int) {
	at := size % api.PageSize
	if at == 0 {
		return
	}
	n, e := s.find(x, size/api.PageSize)
	s.must(e)
	was := s.mustData(n)
	p := was
	clear(p[at:])
	if p != was {
		s.put(n, p)
	}
}

// withPages is an inode with another one's page numbers and Size.
func withPages(x, other inode.Inode) inode.Inode {
	x.Size, x.Direct, x.Ind, x.Dind = other.Size, other.Direct, other.Ind, other.Dind
	return x
}
