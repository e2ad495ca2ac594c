package dir_test

import (
	"fmt"
	"slices"
	"testing"

	"narthex/api"
	"narthex/file"
)

// someName is one of a few right names, or now and then a wrong one.
func someName(c *chance, names int) string {
	if c.below(40) == 0 {
		return wrongNames()[c.below(len(wrongNames()))]
	}
	k := c.below(names)
	return fmt.Sprintf("%.*s", 1+k%13, fmt.Sprint("n", k, "abcdefghijk"))
}

func someNumber(c *chance) int {
	switch c.below(20) {
	case 0:
		return wrongNumbers()[c.below(len(wrongNumbers()))]
	case 1:
		return 1
	case 2:
		return 65535
	}
	return 1 + c.below(65535)
}

// someCall adds more than it removes while grows.
func someCall(c *chance, names int, grows bool) call {
	ino := root + c.below(2)
	name := someName(c, names)
	k := c.below(20)
	switch {
	case k < 4, k < 11 && grows:
		return add(ino, name, someNumber(c))
	case k < 11:
		return remove(ino, name)
	case k < 14:
		return set(ino, name, someNumber(c))
	case k < 18:
		return find(ino, name)
	case k < 19:
		return all(ino)
	}
	return isEmpty(ino)
}

// there is a call that is done, where one that failed would be likely: its name is one that is there.
func there(c *chance, m *model, a call) call {
	l := m.entries(a.dir)
	if (a.what == "Set" || a.what == "Remove" || a.what == "Find") && len(l) > 0 && c.below(4) > 0 {
		a.name = l[c.below(len(l))].Name
	}
	return a
}

// P13.1: Adds, Removes and Sets mixed at random, in steps of one call and of several, held against plain lists of slots; now and then the volume is mounted again.
func TestScripts(t *testing.T) {
	failed := map[api.Errno]int{}
	grew := 0
	for seed := range 40 {
		c := chance(seed*7919 + 1)
		names := []int{3, 12, 60, 400}[seed%4]
		p := fresh(t, 2+c.below(60))
		for k := range 300 {
			var l []call
			next := p.m
			for range []int{1, 1, 2, 5}[c.below(4)] {
				a := there(&c, next, someCall(&c, names, k%100 < 60))
				l = append(l, a)
				next, _, _ = next.on([]call{a})
			}
			failed[p.step(t, l...)]++
			if c.below(60) == 0 {
				p.again(t)
			}
		}
		grew += len(p.m.slots[root]) + len(p.m.slots[other])
	}
	for _, e := range []api.Errno{api.OK, api.ENOENT, api.EEXIST, api.EINVAL, api.ENAMETOOLONG, api.ENOSPC} {
		if failed[e] < 20 {
			t.Errorf("%d: only %d times", e, failed[e])
		}
	}
	if grew < 1000 {
		t.Errorf("only %d slots in all", grew)
	}
}

// again mounts the volume once more, behind a Sync and a crash.
func (p *pair) again(t *testing.T) {
	t.Helper()
	if e := p.v.Sync(); e != api.OK {
		t.Fatalf("Sync: %d", e)
	}
	p.d.Crash()
	p.v = mounted(t, p.d)
	p.like(t, "mounted again")
}

// P13.1: all short orders of calls over two names, on one page, held against a plain list of slots.
func TestShortOrders(t *testing.T) {
	var calls []call
	for _, name := range []string{"a", "b"} {
		calls = append(calls, add(root, name, 2), add(root, name, 3), set(root, name, 4), remove(root, name), find(root, name))
	}
	calls = append(calls, all(root), isEmpty(root))
	p := fresh(t, 2)
	var orders func(l []call)
	orders = func(l []call) {
		_, want, wantE := p.m.on(l)
		var got []string
		e := p.v.Do(func(s *file.Step) {
			for _, c := range l {
				got = append(got, c.do(s))
			}
			s.Fail(api.EPERM)
		})
		if wantE == api.OK {
			wantE = api.EPERM
		}
		if e != wantE || !slices.Equal(got, want) {
			t.Fatalf("%v: %d and %q, not %d and %q", l, e, got, wantE, want)
		}
		if len(l) == 4 || e != api.EPERM {
			return
		}
		for _, c := range calls {
			orders(append(slices.Clip(l), c))
		}
	}
	orders(nil)
	p.like(t, "all failed")
}
