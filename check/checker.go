package check

import (
	"narthex/api"
	"narthex/bits"
	"narthex/dir"
	"narthex/file"
	"narthex/inode"
	"narthex/plan"
	"narthex/slot"
	"narthex/span"
)

// dirLinks is how many Links a Dir has without Dirs in it.
const dirLinks = 2

// checker looks at a volume. Its pages are read first: behind that nothing fails but for what stands on them.
type checker struct {
	*file.Volume
	plan.Plan
	content  map[int]api.Page     // of the pages behind the journal
	inodes   map[int]inode.Inode  // as they stand there: what isn't taken may not be zero
	uses     map[int]int          // how often each page is used
	entries  map[int][]slot.Entry // of each directory without Garbage
	leads    map[int]int          // how many entries lead to each inode
	problems []Problem
}

func newChecker(v *file.Volume) *checker {
	return &checker{
		Volume:  v,
		Plan:    v.Plan(),
		content: map[int]api.Page{},
		inodes:  map[int]inode.Inode{},
		uses:    map[int]int{},
		entries: map[int][]slot.Entry{},
		leads:   map[int]int{},
	}
}

// load reads the pages, and what all checks ask for: the inodes, and the directories' entries.
func (c *checker) load() api.Errno {
	for at := c.InodeBits(); at < c.Pages; at++ {
		p, e := c.Page(at)
		if e != api.OK {
			return e
		}
		c.content[at] = p
	}
	for ino := api.Root; ino <= c.Inodes; ino++ {
		at, half := c.Place(ino)
		c.inodes[ino] = inode.Get(c.content[at], half)
	}
	c.each(c.list)
	return api.OK
}

// list keeps the entries of a directory, and counts to what they lead.
func (c *checker) list(ino int, x inode.Inode) {
	if x.Kind != api.Dir {
		return
	}
	l, e := dir.All(c.Volume, ino)
	if e != api.OK || x.Size%api.PageSize != 0 {
		c.tell(Garbage, ino, 0)
		return
	}
	c.entries[ino] = l
	for _, entry := range l {
		c.leads[entry.Ino]++
	}
}

// checkInodes is what is asked of each inode by itself.
func (c *checker) checkInodes() {
	taken := c.content[c.InodeBits()]
	c.each(func(ino int, x inode.Inode) {
		if bits.Get(ino-api.Root, taken) != c.isThere(ino) {
			c.tell(Bits, ino, 0)
		}
		if !inode.Right(x, c.Plan) {
			c.tell(Wrong, ino, 0)
		}
	})
}

// checkPages is what is asked of data pages.
func (c *checker) checkPages() {
	c.each(c.use)
	taken := c.content[c.DataBits()]
	for bit := range c.Room() {
		at := c.At(bit)
		used, marked := c.uses[at], bits.Get(bit, taken)
		if used > 1 {
			c.tell(Twice, 0, at)
		}
		if used > 0 && !marked {
			c.tell(Unmarked, 0, at)
		}
		if used == 0 && marked {
			c.tell(Lost, 0, at)
		}
	}
}

// use counts what an inode uses. One that is right, but isn't there, has no page numbers.
func (c *checker) use(ino int, x inode.Inode) {
	if !inode.Right(x, c.Plan) {
		return
	}
	for k, n := range x.Direct {
		c.useAt(ino, span.Way{Depth: 0, Inner: k}, n)
	}
	for k, n := range c.useNumbers(x.Ind) {
		c.useAt(ino, span.Way{Depth: 1, Inner: k}, n)
	}
	for outer, m := range c.useNumbers(x.Dind) {
		for k, n := range c.useNumbers(m) {
			c.useAt(ino, span.Way{Depth: 2, Outer: outer, Inner: k}, n)
		}
	}
}

// useNumbers counts a page of numbers, and is what stands there: nothing, if it is no data page, for a file has no others.
func (c *checker) useNumbers(at int) []int {
	if c.Bit(at) < 0 {
		return nil
	}
	c.uses[at]++
	return span.Numbers(c.content[at])
}

// useAt counts the page that an inode has so.
func (c *checker) useAt(ino int, w span.Way, at int) {
	if at == 0 {
		return
	}
	c.uses[at]++
	if index, _ := span.Index(w); index >= span.Pages(c.inodes[ino].Size) {
		c.tell(Beyond, ino, at)
	}
}

// checkEntries is what is asked of what entries lead to.
func (c *checker) checkEntries() {
	c.each(func(ino int, x inode.Inode) {
		for _, entry := range c.entries[ino] {
			if !c.isThere(entry.Ino) {
				c.tell(Dangling, ino, entry.Ino)
			}
		}
		// Nothing leads to the root of a tree: one entry is too many.
		most := 1
		if ino == api.Root {
			most = 0
		}
		if x.Kind == api.Dir && c.leads[ino] > most {
			c.tell(Doubled, ino, 0)
		}
	})
}

// checkLinks is what is asked of Links, of what is come to and what isn't.
func (c *checker) checkLinks() {
	found := c.fromRoot()
	c.each(func(ino int, x inode.Inode) {
		_, come := found[ino]
		ought := c.ought(ino, x)
		if come && x.Links != ought {
			c.tell(Links, ino, ought)
		}
		if !come && c.isThere(ino) && x.Links > 0 {
			c.tell(Orphan, ino, 0)
		}
	})
}

// fromRoot is the inodes that are come to, the root itself too. A way down may lead round.
func (c *checker) fromRoot() map[int]struct{} {
	found := map[int]struct{}{}
	for work := []int{api.Root}; len(work) > 0; work = work[1:] {
		ino := work[0]
		if _, come := found[ino]; come || !c.isThere(ino) {
			continue
		}
		found[ino] = struct{}{}
		for _, entry := range c.entries[ino] {
			work = append(work, entry.Ino)
		}
	}
	return found
}

// ought is how many Links an inode ought to have.
func (c *checker) ought(ino int, x inode.Inode) int {
	if x.Kind != api.Dir {
		return c.leads[ino]
	}
	n := dirLinks
	for _, entry := range c.entries[ino] {
		if c.inodes[entry.Ino].Kind == api.Dir {
			n++
		}
	}
	return n
}

// isThere takes any number: there is no inode outside of the plan.
func (c *checker) isThere(ino int) bool { return c.inodes[ino].Kind != api.None }

// each goes through all inodes of the plan, those too that aren't there.
func (c *checker) each(f func(ino int, x inode.Inode)) {
	for ino := api.Root; ino <= c.Inodes; ino++ {
		f(ino, c.inodes[ino])
	}
}

func (c *checker) tell(kind, ino, n int) {
	c.problems = append(c.problems, Problem{Kind: kind, Ino: ino, N: n})
}
