package tree

import (
	"narthex/api"
	"narthex/dir"
	"narthex/file"
	"narthex/inode"
	"narthex/slot"
)

// act is a step that is done to a tree.
type act struct {
	*file.Step
	tree *Tree
}

// do does an act.
func (t *Tree) do(f func(a act)) api.Errno {
	return t.Volume().Do(func(s *file.Step) { f(act{Step: s, tree: t}) })
}

// ask does an act that answers something. An act whose function went well may fail still, when it is kept: nothing is answered then.
func ask[T any](t *Tree, f func(a act) T) (T, api.Errno) {
	var answer, none T
	if e := t.do(func(a act) { answer = f(a) }); e != api.OK {
		return none, e
	}
	return answer, api.OK
}

// taken is an inode that must be taken; else the act fails with e.
func (a act) taken(ino int, e api.Errno) inode.Inode {
	if ino < api.Root || ino > a.tree.Volume().Plan().Inodes {
		a.Fail(e)
	}
	x := a.Inode(ino)
	if x.Kind == api.None {
		a.Fail(e)
	}
	return x
}

// there is an inode that was handed in.
func (a act) there(ino int) inode.Inode { return a.taken(ino, api.ENOENT) }

// led is an inode that an entry leads to: none is only on a spoilt disk.
func (a act) led(ino int) inode.Inode { return a.taken(ino, api.EIO) }

// directory is a directory that was handed in.
func (a act) directory(ino int) dir.Dir {
	x := a.there(ino)
	d := dir.Of(a.Step, ino) // ENOTDIR comes ahead of its having no Links
	if x.Links == 0 {
		a.Fail(api.ENOENT)
	}
	return d
}

// wantFile asks whether an inode that was handed in is a File.
func (a act) wantFile(ino int) {
	switch a.there(ino).Kind {
	case api.Dir:
		a.Fail(api.EISDIR)
	case api.Link:
		a.Fail(api.EINVAL)
	}
}

// find is the inode that a name must lead to.
func (a act) find(d dir.Dir, name string) (int, inode.Inode) {
	ino := d.Find(name)
	if ino == 0 {
		a.Fail(api.ENOENT)
	}
	return ino, a.led(ino)
}

func (a act) attr(ino int) api.Attr { return inode.Attr(ino, a.Inode(ino)) }

// right is an inode that is to be made.
func (a act) right(x inode.Inode) inode.Inode {
	if !inode.Right(x, a.tree.Volume().Plan()) {
		a.Fail(api.EINVAL)
	}
	return x
}

// enter makes an inode that a name leads to. What is wrong with the name is asked ahead of whether there is an inode for it.
func (a act) enter(d dir.Dir, name string, x inode.Inode) int {
	if e := slot.Check(name); e != api.OK {
		a.Fail(e)
	}
	if d.Find(name) != 0 {
		a.Fail(api.EEXIST)
	}
	ino := a.New(x)
	d.Add(name, ino)
	return ino
}

// gain lets an inode have one more of its Links.
func (a act) gain(ino int) {
	x := a.Inode(ino)
	if x.Links >= api.MaxLinks {
		a.Fail(api.EMLINK)
	}
	a.link(ino, x.Links+1)
}

// lose lets an inode have one fewer of its Links.
func (a act) lose(ino int) { a.link(ino, a.Inode(ino).Links-1) }

// link sets an inode's Links. One without any is there only as long as it is open.
func (a act) link(ino, links int) {
	x := a.Inode(ino)
	x.Links = links
	a.Change(ino, x)
	if links == 0 && a.tree.opens[ino] == 0 {
		a.Release(ino)
	}
}

// leave is told of an inode that an entry of a directory doesn't lead to any more.
func (a act) leave(d dir.Dir, ino int, x inode.Inode) {
	if x.Kind != api.Dir {
		a.lose(ino)
		return
	}
	a.lose(d.Ino)
	a.link(ino, 0)
}

// removable asks whether an inode is a Dir without entries: ENOTDIR is dir.Of's.
func (a act) removable(ino int) {
	if !dir.Of(a.Step, ino).Empty() {
		a.Fail(api.ENOTEMPTY)
	}
}

// replace lets a name that leads to old lead to ino.
func (a act) replace(d dir.Dir, name string, ino, old int) {
	was := a.led(old)
	if a.Inode(ino).Kind == api.Dir {
		a.removable(old)
	} else if was.Kind == api.Dir {
		a.Fail(api.EISDIR)
	}
	d.Set(name, ino)
	a.leave(d, old, was)
}

// holds tells whether a Dir is another one, or that one lies in it, however deep. On a spoilt disk a way down may lead round.
func (a act) holds(ino, other int) bool {
	seen := map[int]int{}
	for work := []int{ino}; len(work) > 0; work = work[1:] {
		if work[0] == other {
			return true
		}
		if seen[work[0]]++; seen[work[0]] == 1 {
			work = append(work, a.directories(work[0])...)
		}
	}
	return false
}

// directories are those that the entries of a directory lead to.
func (a act) directories(ino int) []int {
	var l []int
	for _, e := range dir.Of(a.Step, ino).All() {
		if a.led(e.Ino).Kind == api.Dir {
			l = append(l, e.Ino)
		}
	}
	return l
}
