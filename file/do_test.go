package file_test

import (
	"errors"
	"fmt"
	"math"
	"runtime"
	"testing"

	"narthex/api"
	"narthex/file"
	"narthex/inode"
	"narthex/plan"
)

// busy is a pair with some files, part of which is synced, and part only kept.
func busy(t *testing.T) *pair {
	t.Helper()
	p := fresh(t, 100, 8)
	p.must(t, add(aFile(1)), write(2, 60, "abcdefgh"), add(aFile(2)), write(3, 2304, "far"))
	if p.v.Sync() != api.OK {
		t.Fatal("Sync")
	}
	p.must(t, write(2, 5, "kept"), add(inode.Inode{Kind: api.Link, Links: 1}), write(4, 0, "target"))
	return p
}

// changing is calls of each kind that change the volume of busy.
func changing() []call {
	return []call{
		add(aFile(3)), change(3, aFile(4)), write(2, 0, many("x", 6)), write(3, 64*40, "deep"),
		truncate(2, 61), truncate(3, 5), release(4), read(2, 0, 99), look(3),
	}
}

// failing is calls of each kind that fail, and with what.
func failing() map[string]struct {
	c call
	e api.Errno
} {
	return map[string]struct {
		c call
		e api.Errno
	}{
		"New":            {add(inode.Inode{}), api.EINVAL},
		"Change":         {change(9, aFile(1)), api.EINVAL},
		"Release":        {release(8), api.EINVAL},
		"Write":          {write(2, -1, "x"), api.EINVAL},
		"too far":        {write(2, api.MaxFile, "x"), api.EFBIG},
		"too much":       {write(2, 0, many("x", 99)), api.ENOSPC},
		"Truncate":       {truncate(2, -1), api.EINVAL},
		"Truncate far":   {truncate(2, api.MaxFile+1), api.EFBIG},
		"Read":           {read(2, 0, -1), api.EINVAL},
		"Inode":          {look(0), api.EINVAL},
		"Fail":           {fail(api.EPERM), api.EPERM},
		"Fail(OK)":       {fail(api.OK), api.EINVAL},
		"Fail(ENOSPC)":   {fail(api.ENOSPC), api.ENOSPC},
		"Fail of no one": {fail(-7), -7},
	}
}

// P11.1, P11.3: steps of several calls of which the first, a midst one or the last fails: nothing has changed, and the next step is done.
func TestStepsThatFail(t *testing.T) {
	for name, f := range failing() {
		for at := range len(changing()) + 1 {
			p := busy(t)
			l := append(append(append([]call(nil), changing()[:at]...), f.c), changing()[at:]...)
			was := toldBy(t, p.v)
			if e := p.step(t, l...); e != f.e {
				t.Fatalf("%s at %d: %d, not %d", name, at, e, f.e)
			}
			if toldBy(t, p.v) != was {
				t.Fatalf("%s at %d: something has changed", name, at)
			}
			p.must(t, changing()...)
		}
	}
}

// P11.3: what a step that failed put isn't kept with a later step, nor synced.
func TestFailedStepsAreNotSynced(t *testing.T) {
	p := busy(t)
	p.refused(t, api.EPERM, write(2, 0, "lost"), write(4, 0, "lost"), fail(api.EPERM))
	p.must(t, write(3, 0, "done"))
	if p.v.Sync() != api.OK {
		t.Fatal("Sync")
	}
	p.d.Crash()
	p.v = mounted(t, p.d)
	p.like(t, "behind a crash")
}

// P11.1: no call of a step is done behind one that failed.
func TestNothingBehindAFailure(t *testing.T) {
	p := busy(t)
	if e := p.v.Do(func(s *file.Step) {
		s.Release(8)
		t.Error("it goes on")
	}); e != api.EINVAL {
		t.Error(e)
	}
	p.like(t, "failed")
}

// P11.3: a function that recovers the failure by itself has failed all the same, with the first error.
func TestFailureThatIsRecovered(t *testing.T) {
	p := busy(t)
	tried := func(f func()) (panicked bool) {
		defer func() { panicked = recover() != nil }()
		f()
		return
	}
	calls := 0
	e := p.v.Do(func(s *file.Step) {
		s.Write(2, 0, "lost")
		if !tried(func() { s.Write(2, api.MaxFile, "x") }) {
			t.Error("no failure")
		}
		for _, c := range changing() {
			if !tried(func() { c.do(s) }) {
				t.Errorf("%v goes on", c)
			}
			calls++
		}
		if !tried(func() { s.Fail(api.EPERM) }) {
			t.Error("Fail goes on")
		}
	})
	if e != api.EFBIG || calls != len(changing()) {
		t.Errorf("%d, %d calls", e, calls)
	}
	p.like(t, "failed")
	p.must(t, changing()...)
}

// passed does a step, and is what it panics with.
func passed(v *file.Volume, f func(s *file.Step)) (x any) {
	defer func() { x = recover() }()
	v.Do(f)
	return nil
}

// P11.1, P11.3: panics of f's own, of any type, are passed on; nothing has changed then.
func TestPanicsArePassedOn(t *testing.T) {
	mine := errors.New("mine")
	for _, x := range []any{"mine", 7, mine, api.EPERM, api.OK, &pair{}, struct{}{}, inode.Inode{}, (*file.Step)(nil)} {
		for at := range len(changing()) + 1 {
			p := busy(t)
			got := passed(p.v, func(s *file.Step) {
				for _, c := range changing()[:at] {
					c.do(s)
				}
				panic(x)
			})
			if got != x {
				t.Fatalf("%v, not %v", got, x)
			}
			p.like(t, fmt.Sprint("panic ", x))
			p.must(t, changing()...)
		}
	}
	p := busy(t)
	if _, ok := passed(p.v, func(s *file.Step) { s.Write(2, 0, "lost"); panic(nil) }).(*runtime.PanicNilError); !ok {
		t.Error("a panic of nil")
	}
	if _, ok := passed(p.v, func(s *file.Step) { s.Write(2, 0, "lost"); var l []int; l[s.Inode(1).Links]++ }).(runtime.Error); !ok {
		t.Error("an error of f's own")
	}
	// its own panic, while a failure goes through
	if x := passed(p.v, func(s *file.Step) {
		defer func() { panic("mine") }()
		s.Write(2, 0, "lost")
		s.Fail(api.EPERM)
	}); x != "mine" {
		t.Errorf("%v", x)
	}
	p.like(t, "panics")
	p.must(t, changing()...)
}

// P11.3: a function whose goroutine ends has changed nothing, either.
func TestGoexit(t *testing.T) {
	p := busy(t)
	ended := make(chan struct{})
	go func() {
		defer close(ended)
		p.v.Do(func(s *file.Step) {
			s.Write(2, 0, "lost")
			runtime.Goexit()
		})
		t.Error("it goes on")
	}()
	<-ended
	p.like(t, "ended")
	p.must(t, changing()...)
}

// P11.1: a step that isn't being done does nothing.
func TestStepsThatAreNotDone(t *testing.T) {
	p := busy(t)
	var ended, failed *file.Step
	p.v.Do(func(s *file.Step) { ended = s })
	p.v.Do(func(s *file.Step) { failed = s; s.Fail(api.EPERM) })
	for name, s := range map[string]*file.Step{"nil": nil, "zero": {}, "ended": ended, "failed": failed} {
		for _, c := range append(changing(), fail(api.EPERM), fail(api.OK), release(8), write(2, -1, "x")) {
			a := c.do(s)
			if a != "" && a != "0" && a != fmt.Sprint(inode.Inode{}) {
				t.Errorf("%s: %v: %s", name, c, a)
			}
		}
		p.like(t, name)
	}
	p.must(t, changing()...)
}

// P11.1: a function that does nothing, and none.
func TestEmptySteps(t *testing.T) {
	p := busy(t)
	p.must(t)
	if e := p.v.Do(nil); e != api.OK {
		t.Error(e)
	}
	p.like(t, "nil")
}

// inner does calls within a step of the outer calls, in a step of its own, and is what both answer.
func inner(t *testing.T, p *pair, ahead, within, behind []call) (outerE, innerE api.Errno) {
	t.Helper()
	outerE = p.v.Do(func(s *file.Step) {
		for _, c := range ahead {
			c.do(s)
		}
		_, innerE = do(p.v, within)
		for _, c := range behind {
			c.do(s)
		}
	})
	return
}

// P11.3: a step that is done within another one is done wholly with it, or not at all.
func TestStepsWithinSteps(t *testing.T) {
	ahead := []call{write(2, 0, "outer"), add(aFile(1)), write(5, 64*40, "x"), truncate(3, 9)}
	within := []call{write(2, 2, "inner"), write(5, 64*3, many("y", 3)), change(3, aFile(9)), release(4), write(3, 70, "z")}
	behind := []call{write(3, 200, "behind"), read(2, 0, 20)}
	all := append(append(append([]call(nil), ahead...), within...), behind...)
	failure := []call{fail(api.EPERM)}

	p := busy(t)
	if e, i := inner(t, p, ahead, within, behind); e != api.OK || i != api.OK {
		t.Fatal(e, i)
	}
	p.m, _, _ = p.m.on(all)
	p.like(t, "both are done")

	p = busy(t)
	if e, i := inner(t, p, ahead, append(within[:len(within):len(within)], failure...), behind); e != api.OK || i != api.EPERM {
		t.Fatal(e, i)
	}
	p.m, _, _ = p.m.on(append(ahead[:len(ahead):len(ahead)], behind...))
	p.like(t, "the inner one fails")

	p = busy(t)
	if e, i := inner(t, p, ahead, within, append(behind[:len(behind):len(behind)], failure...)); e != api.EPERM || i != api.OK {
		t.Fatal(e, i)
	}
	p.like(t, "the outer one fails")
	p.must(t, changing()...)
	if p.v.Sync() != api.OK {
		t.Fatal("Sync")
	}
	p.d.Crash()
	p.v = mounted(t, p.d)
	p.like(t, "behind a crash")
}

// P11.3: what an inner step put that failed takes none of the outer one's room; what one put that is done does.
func TestRoomOfStepsWithinSteps(t *testing.T) {
	for _, c := range []struct{ innerE, want api.Errno }{{api.EPERM, api.OK}, {api.OK, api.ENOSPC}} {
		p := fresh(t, 200, 3)
		p.must(t, add(aFile(1)), add(aFile(1)))
		ahead, behind := write(2, 0, many("x", 18)), write(2, 64*18, many("y", 16))
		e := p.v.Do(func(s *file.Step) {
			ahead.do(s)
			if e := p.v.Do(func(s *file.Step) {
				s.Write(3, 0, many("z", 4))
				if c.innerE != api.OK {
					s.Fail(c.innerE)
				}
			}); e != c.innerE {
				t.Errorf("%d, not %d", e, c.innerE)
			}
			behind.do(s)
		})
		if e != c.want {
			t.Errorf("%d, not %d", e, c.want)
		}
		if e == api.OK {
			p.m, _, _ = p.m.on([]call{ahead, behind})
		}
		p.like(t, "room")
	}
}

// P11.3: an inner step that fails on a disk that is down: what the outer one put is there still.
func TestStepsWithinStepsOnADiskThatIsDown(t *testing.T) {
	p := fresh(t, 60, 4)
	e := p.v.Do(func(s *file.Step) {
		i, j := s.New(aFile(1)), s.New(aFile(1))
		s.New(aFile(1))
		s.Release(i)
		s.Write(j, 0, "outer")
		wentDown(p.d)
		if e := p.v.Do(func(s *file.Step) {
			s.Write(j+1, 0, "lost")
			s.Write(j, 0, "inner")
			s.Fail(api.EPERM)
		}); e != api.EPERM {
			t.Error(e)
		}
		if text := s.Read(j, 0, 9); text != "outer" || s.Inode(j+1).Size != 0 || p.v.Free() != p.v.Plan().Room()-1 {
			t.Errorf("%q, %v, %d free", text, s.Inode(j+1), p.v.Free())
		}
	})
	if e != api.OK {
		t.Error(e)
	}
}

// P11.3: three steps deep, of which the midst one fails, or panics, when the inmost is done.
func TestStepsWithinStepsWithinSteps(t *testing.T) {
	for _, panics := range []bool{false, true} {
		p := busy(t)
		e := p.v.Do(func(s *file.Step) {
			s.Write(2, 0, "outer")
			got := passed(p.v, func(s *file.Step) {
				s.Write(2, 2, "midst")
				if e := p.v.Do(func(s *file.Step) { s.Write(2, 4, "inmost") }); e != api.OK {
					t.Error(e)
				}
				if panics {
					panic("mine")
				}
				s.Fail(api.EPERM)
			})
			if panics != (got == "mine") {
				t.Error(got)
			}
			s.Write(2, 20, "behind")
		})
		if e != api.OK {
			t.Error(e)
		}
		p.m, _, _ = p.m.on([]call{write(2, 0, "outer"), write(2, 20, "behind")})
		p.like(t, "the midst one fails")
	}
}

// P11.3: an outer step that fails within an inner one: the failure is recovered where the outer one began. The same of two volumes.
func TestFailuresGoWhereTheyBegan(t *testing.T) {
	p, q := busy(t), busy(t)
	for name, v := range map[string]*file.Volume{"one volume": p.v, "two volumes": q.v} {
		for i, f := range failing() {
			e := p.v.Do(func(s *file.Step) {
				s.Write(2, 0, "lost")
				v.Do(func(in *file.Step) {
					in.Write(3, 0, "lost")
					f.c.do(s)
					t.Errorf("%s, %s: it goes on", name, i)
				})
				t.Errorf("%s, %s: the inner one takes it", name, i)
			})
			if e != f.e {
				t.Errorf("%s, %s: %d, not %d", name, i, e, f.e)
			}
			p.like(t, name)
			q.like(t, name)
		}
	}
}

// P11.1: a Sync within a step syncs what was kept ahead of it.
func TestSyncWithinAStep(t *testing.T) {
	p := busy(t)
	was := p.m
	e := p.v.Do(func(s *file.Step) {
		s.Write(2, 0, "lost")
		if e := p.v.Sync(); e != api.OK {
			t.Error(e)
		}
		s.Write(3, 0, "lost")
	})
	if e != api.OK {
		t.Error(e)
	}
	p.d.Crash()
	p.v, p.m = mounted(t, p.d), was
	p.like(t, "behind a crash")
	e = p.v.Do(func(s *file.Step) {
		s.Write(2, 0, "lost")
		p.d.Fuse(0)
		p.v.Do(func(s *file.Step) { s.Write(2, 0, "kept") })
		p.v.Sync()
	})
	if e != api.OK || p.v.Over() {
		t.Error("what was put isn't in the group yet: a Sync has nothing to do", e)
	}
}

// wantOver asks each call of a volume that is over.
func wantOver(t *testing.T, what string, v *file.Volume) {
	t.Helper()
	if !v.Over() || v.Sync() != api.EIO || v.Free() != 0 || v.Spare() != 0 {
		t.Errorf("%s: Over %v, Sync %d, %d free, %d spare", what, v.Over(), v.Sync(), v.Free(), v.Spare())
	}
	for _, i := range edgeInodes(4) {
		if x, e := v.Inode(i); x != (inode.Inode{}) || e != api.EIO {
			t.Errorf("%s: Inode(%d): %v, %d", what, i, x, e)
		}
		if p, e := v.Page(i); p != (api.Page{}) || e != api.EIO {
			t.Errorf("%s: Page(%d): %v, %d", what, i, p, e)
		}
		for _, off := range []int{-1, 0, 1, math.MaxInt} {
			if text, e := v.Read(i, off, off); text != "" || e != api.EIO {
				t.Errorf("%s: Read(%d, %d): %q, %d", what, i, off, text, e)
			}
		}
	}
	for _, f := range []func(s *file.Step){nil, func(*file.Step) { t.Errorf("%s: a step is done", what) }} {
		if e := v.Do(f); e != api.EIO {
			t.Errorf("%s: Do: %d", what, e)
		}
	}
}

// P11.1: a nil volume, and a zero one, are over.
func TestNoVolume(t *testing.T) {
	wantOver(t, "nil", nil)
	wantOver(t, "zero", &file.Volume{})
	if p := (*file.Volume)(nil).Plan(); p != (plan.Plan{}) {
		t.Errorf("Plan: %v", p)
	}
}

// P11.1: a volume whose Sync failed, its own or Keep's, is over.
func TestVolumeThatIsOver(t *testing.T) {
	p := busy(t)
	p.d.Fuse(3)
	if e := p.v.Sync(); e != api.EIO {
		t.Errorf("Sync: %d", e)
	}
	wantOver(t, "Sync", p.v)
	p.d.Crash()
	wantOver(t, "Sync, behind a crash", p.v)

	p = busy(t)
	p.d.Fuse(0)
	if e := p.v.Do(func(s *file.Step) { s.Write(2, 0, many("x", 34)) }); e != api.EIO {
		t.Errorf("Do: %d", e)
	}
	wantOver(t, "Do", p.v)

	// within a step
	p = busy(t)
	p.d.Fuse(0)
	if e := p.v.Do(func(s *file.Step) {
		s.Write(2, 0, "lost")
		if e := p.v.Sync(); e != api.EIO {
			t.Errorf("Sync: %d", e)
		}
		wantOver(t, "within a step", p.v)
	}); e != api.EIO {
		t.Errorf("Do: %d", e)
	}
	p = busy(t)
	p.d.Fuse(0)
	for _, c := range append(changing(), fail(api.EIO)) {
		if e := p.v.Do(func(s *file.Step) {
			p.v.Sync()
			c.do(s)
			t.Errorf("%v goes on", c)
		}); e != api.EIO {
			t.Errorf("%v: %d", c, e)
		}
	}
}

// P11.1: a disk that is down without the volume's doing: what isn't in the group can't be read; the volume isn't over.
func TestDiskThatIsDown(t *testing.T) {
	p := fresh(t, 100, 8)
	p.must(t, add(aFile(1)), write(2, 0, "abc"))
	if p.v.Sync() != api.OK {
		t.Fatal("Sync")
	}
	wentDown(p.d)
	if p.v.Over() || p.v.Free() != 0 || p.v.Spare() != 0 {
		t.Errorf("Over %v, %d free, %d spare", p.v.Over(), p.v.Free(), p.v.Spare())
	}
	if _, e := p.v.Inode(1); e != api.EIO {
		t.Errorf("Inode: %d", e)
	}
	if _, e := p.v.Inode(9); e != api.EINVAL {
		t.Errorf("Inode(9): %d", e)
	}
	if text, e := p.v.Read(2, 0, 3); text != "" || e != api.EIO {
		t.Errorf("Read: %q, %d", text, e)
	}
	if _, e := p.v.Page(0); e != api.EIO {
		t.Errorf("Page: %d", e)
	}
	for _, c := range []call{add(aFile(1)), change(2, aFile(1)), release(2), read(2, 0, 1), write(2, 0, "x"), truncate(2, 0), look(2)} {
		if _, e := do(p.v, []call{c}); e != api.EIO {
			t.Errorf("%v: %d", c, e)
		}
	}
	p.d.Crash()
	p.like(t, "behind a crash")
	p.must(t, write(2, 0, "x"))
}

// P11.1: Page tells the store's pages, and its errors.
func TestPage(t *testing.T) {
	p := busy(t)
	for _, i := range []int{math.MinInt, -1, 1, 2, 39, 40, 100, 101, 512, math.MaxInt} {
		if x, e := p.v.Page(i); x != (api.Page{}) || e != api.EINVAL {
			t.Errorf("Page(%d): %v, %d", i, x, e)
		}
	}
	for _, i := range []int{41, 42, 43, 46, 47, 98, 99} {
		if _, e := p.v.Page(i); e != api.OK {
			t.Errorf("Page(%d): %d", i, e)
		}
	}
	if x := pageOf(t, p.v, 0); x != superPage(100, 8) {
		t.Errorf("Page(0): %v", x)
	}
	x, _ := p.v.Inode(4)
	if got := pageOf(t, p.v, x.Direct[0]); string(got[:]) != "target"+zeros(58) {
		t.Errorf("what is kept: %q", got)
	}
	h := half(api.Link, 0, 0, 1, 6)
	h[13] = byte(x.Direct[0])
	if got := pageOf(t, p.v, tableAt+1); string(got[32:]) != string(h[:]) {
		t.Errorf("inode 4's half: %v, not %v", got[32:], h)
	}
}
