package tree_test

import (
	"fmt"
	"maps"
	"slices"
	"strings"
	"testing"

	"narthex/api"
)

// someName is one of a few right names, or now and then a wrong one.
func someName(c *chance, names int) string {
	if c.below(25) == 0 {
		return slices.Sorted(maps.Keys(wrongNames()))[c.below(len(wrongNames()))]
	}
	k := c.below(names)
	return fmt.Sprintf("%.*s", 1+k%13, fmt.Sprint("n", k, "abcdefghijk"))
}

// some is an inode that is there, of that Kind if there is one; now and then any.
func some(c *chance, m *model, kind int) int {
	there := slices.Sorted(maps.Keys(m.nodes))
	l := slices.DeleteFunc(slices.Clone(there), func(ino int) bool { return m.nodes[ino].kind != kind })
	switch k := c.below(24); {
	case k == 0:
		return c.below(m.inodes+3) - 1
	case k == 1 || len(l) == 0:
		return there[c.below(len(there))]
	}
	return l[c.below(len(l))]
}

// there is a directory, with Links mostly, and a name of it, if it has one.
func there(c *chance, m *model, names int) (int, string) {
	dir := some(c, m, api.Dir)
	if l := m.list(dir); len(l) > 0 && c.below(12) > 0 {
		return dir, l[c.below(len(l))].Name
	}
	return dir, someName(c, names)
}

// some kinds of number, a wrong one now and then.
func somePerm(c *chance) int { return c.of(0, 448, 511, c.below(512), c.of(c.below(512), -1, 512)) }

func someUid(c *chance) int {
	return c.of(0, 7, 65535, c.below(65536), c.of(c.below(9), -1, 65536))
}

func someOffset(c *chance) int {
	return c.of(0, c.below(70), c.below(600), c.below(64*40), c.below(67840), c.of(67840, 67841, -1, 67800))
}

func someText(c *chance, most int) string {
	return strings.Repeat("abcdefgh", most/8+1)[:c.of(0, 1, c.below(most), most, c.of(1, most+1))]
}

// someCall is a call of chance, one that is done for the most part.
func someCall(c *chance, m *model, names int) call {
	dir, name := there(c, m, names)
	file := some(c, m, api.File)
	switch c.below(33) {
	case 0, 1, 29:
		return create(dir, someName(c, names), somePerm(c), someUid(c))
	case 2, 3, 4:
		return mkdir(dir, someName(c, names), somePerm(c), someUid(c))
	case 5:
		return symlink(dir, someName(c, names), "t"+someText(c, 59), someUid(c))
	case 6, 7:
		return link(dir, someName(c, names), some(c, m, c.of(api.File, api.File, api.Link, api.Dir)))
	case 8, 9:
		return unlink(dir, name)
	case 10, 11:
		return rmdir(dir, name)
	case 12, 13, 14, 15:
		return rename(dir, name, some(c, m, api.Dir), someName(c, names))
	case 16, 17:
		to, other := there(c, m, names)
		return rename(dir, name, to, other)
	case 18, 19, 20:
		return put(file, someOffset(c), someText(c, 512))
	case 21:
		return resize(file, someOffset(c))
	case 22:
		return get(file, someOffset(c), c.of(0, 1, 512, 513, -1))
	case 23, 24, 25:
		return open(some(c, m, c.of(api.File, api.File, api.Dir, api.Link)))
	case 26:
		if l := slices.Sorted(maps.Keys(m.opens)); len(l) > 0 {
			return shut(l[c.below(len(l))])
		}
		return shut(file)
	case 27:
		return chmod(1+c.below(m.inodes), somePerm(c))
	case 28:
		return chown(1+c.below(m.inodes), someUid(c))
	}
	return []call{lookup(dir, name), getattr(file), list(some(c, m, c.of(api.Dir, api.File))), readlink(some(c, m, api.Link))}[c.below(4)]
}

// wide is a call that gives a few inodes many Links.
func wide(c *chance, m *model) call {
	file := 0
	for ino, n := range m.nodes {
		if n.kind == api.File && (file == 0 || ino < file) {
			file = ino
		}
	}
	dir, k := c.of(root, root, 2), c.below(70)
	switch c.below(14) {
	case 0, 1, 2, 3, 4, 5:
		return mkdir(dir, fmt.Sprint("d", k), 0, 0)
	case 6, 7, 8, 9:
		return link(root, fmt.Sprint("l", k), file)
	case 10:
		return rmdir(dir, fmt.Sprint("d", k))
	case 11:
		return unlink(root, fmt.Sprint("l", k))
	}
	return rename(c.of(root, 2), fmt.Sprint("d", k), dir, fmt.Sprint("d", c.below(70)))
}

// P14.1, P14.2: random acts held against a plain tree, act by act, with Syncs and Mounts between them; behind each the tree is one.
func TestScripts(t *testing.T) {
	seen := map[string]int{}
	for seed := range 30 {
		c := chance(seed*7919 + 1)
		inodes := []int{6, 20, 60, 128, 128}[seed%5]
		p := fresh(t, 43+inodes/2+[]int{9, 40, 100, 200, 400}[seed/5%5], inodes)
		for range 500 {
			a := someCall(&c, p.m, []int{4, 12, 40}[seed%3])
			if seed%5 == 4 && c.below(20) > 0 {
				a = wide(&c, p.m)
			}
			seen[fmt.Sprint(a.what, " ", p.act(t, a).e)]++
			switch c.below(90) {
			case 0:
				p.must(t, sync())
			case 1:
				p.again(t)
			}
		}
	}
	for what, l := range map[string][]api.Errno{
		"Lookup": {api.OK, api.ENOENT}, "Getattr": {api.OK, api.ENOENT}, "Readlink": {api.OK, api.ENOENT, api.EINVAL}, "List": {api.OK, api.ENOENT, api.ENOTDIR},
		"Chmod": {api.OK, api.ENOENT, api.EINVAL}, "Chown": {api.OK, api.ENOENT, api.EINVAL},
		"Resize":  {api.OK, api.ENOENT, api.EISDIR, api.EINVAL, api.EFBIG},
		"Create":  {api.OK, api.ENOENT, api.ENOTDIR, api.EINVAL, api.ENAMETOOLONG, api.EEXIST, api.ENOSPC},
		"Mkdir":   {api.OK, api.ENOENT, api.ENOTDIR, api.EINVAL, api.EEXIST, api.ENOSPC, api.EMLINK},
		"Symlink": {api.OK, api.ENOENT, api.EINVAL, api.EEXIST, api.ENOSPC},
		"Link":    {api.OK, api.ENOENT, api.EPERM, api.EEXIST, api.EMLINK},
		"Unlink":  {api.OK, api.ENOENT, api.EISDIR}, "Rmdir": {api.OK, api.ENOENT, api.ENOTDIR, api.ENOTEMPTY},
		"Rename": {api.OK, api.ENOENT, api.EINVAL, api.ENOTDIR, api.EISDIR, api.ENOTEMPTY, api.EMLINK, api.ENOSPC},
		"Get":    {api.OK, api.EINVAL, api.ENOENT}, "Put": {api.OK, api.EINVAL, api.ENOENT, api.EFBIG, api.ENOSPC},
		"Open": {api.OK, api.ENOENT}, "Close": {api.OK, api.EBADF},
	} {
		for _, e := range l {
			if n := seen[fmt.Sprint(what, " ", e)]; n < 5 {
				t.Errorf("%s was answered %d only %d times", what, e, n)
			}
		}
	}
}

// P14.1, P14.2: all short orders of acts on a small tree, from where two names may be one inode's, or a Dir's.
func TestShortOrders(t *testing.T) {
	p := fresh(t, 60, 5)
	p.must(t, mkdir(root, "a", 0, 0), create(2, "b", 0, 0), sync())
	calls := []call{
		create(root, "b", 0, 0), mkdir(root, "b", 0, 0), mkdir(2, "a", 0, 0), link(root, "b", 3), unlink(root, "b"), unlink(2, "b"), rmdir(root, "a"), rmdir(2, "a"),
		rename(root, "a", root, "b"), rename(root, "b", root, "a"), rename(root, "b", 2, "b"), rename(2, "b", root, "b"), rename(2, "a", root, "a"), rename(root, "a", 2, "a"), rename(root, "b", 2, "a"), rename(2, "a", 2, "b"),
		open(3), shut(3), open(2), shut(2),
	}
	var orders func(l []call)
	orders = func(l []call) {
		p.inOrder(t, l)
		if len(l) == 3 {
			return
		}
		for _, c := range calls {
			orders(append(slices.Clip(l), c))
		}
	}
	orders(nil)
}

// inOrder does calls on what lasts of the disk, and lets nothing of them last.
func (p *pair) inOrder(t *testing.T, l []call) {
	t.Helper()
	q := &pair{p.d, mounted(t, p.d), p.m}
	q.quiet(t, l...)
	q.like(t, fmt.Sprint(l))
	p.d.Crash()
}
