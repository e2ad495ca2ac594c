package flow_test

import (
	"math"
	"slices"
	"testing"

	"narthex/api"
	"narthex/flow"
	"narthex/hook"
	"narthex/insn"
	"narthex/maps"
	"narthex/vm"
)

func (c *chance) plain() insn.Insn { return plain[c.below(len(plain))] }

func (c *chance) branch(off int) insn.Insn {
	return insn.Insn{Op: branches[c.below(len(branches))], Dst: c.below(8), Off: off}
}

// flowing is n instructions that flow. Exits and Jumps stand only where another way leads to what is behind them.
func (c *chance) flowing(n, bend int) []insn.Insn {
	l := make([]insn.Insn, n)
	come := make([]bool, n+1)
	for at := range l {
		left := n - at - 1
		switch k := c.below(100); {
		case left == 0:
			l[at] = exit
		case come[at+1] && k < bend:
			l[at] = exit
		case come[at+1] && k < 2*bend:
			off := c.below(left)
			l[at] = jump(off)
			come[at+1+off] = true
		case k < 3*bend:
			off := c.below(min(left, 1+c.below(9)))
			l[at] = c.branch(off)
			come[at+1], come[at+1+off] = true, true
		default:
			l[at] = c.plain()
		}
	}
	return l
}

// spoilt is a program of which one instruction or its Off is another one, or of which one is missing, or there twice.
func (c *chance) spoilt(l []insn.Insn) []insn.Insn {
	at := c.below(len(l))
	switch c.below(7) {
	case 0:
		l[at] = exit
	case 1:
		l[at] = jump(c.below(4) - 1)
	case 2:
		l[at] = c.branch(c.below(12) - 3)
	case 3:
		l[at].Off = []int{-32768, -2, -1, 0, 1, 2, 9, 63, 32767, 65536, math.MaxInt, math.MinInt}[c.below(12)]
	case 4:
		l = slices.Delete(l, at, at+1)
	case 5:
		l = slices.Insert(l, at, l[at])
	case 6:
		l[at].Op = c.below(90)
	}
	return l
}

// anything is instructions of any kinds that lead anywhere.
func (c *chance) anything(n int) []insn.Insn {
	l := make([]insn.Insn, n)
	for at := range l {
		switch c.below(6) {
		case 0:
			l[at] = exit
		case 1:
			l[at] = jump(c.below(2*n+3) - n - 1)
		case 2, 3:
			l[at] = c.branch(c.below(2*n+3) - n - 1)
		default:
			l[at] = c.plain()
		}
	}
	return l
}

// P20.1: random programs, flowing or not, against the model.
func TestRandomPrograms(t *testing.T) {
	c := chance(20)
	flowing, others := 0, 0
	for n := range 12000 {
		var l []insn.Insn
		switch n % 4 {
		case 0:
			l = c.flowing(1+c.below(64), c.below(30))
			if !wantFlows(l) {
				t.Fatalf("%+v doesn't flow", l)
			}
		case 1:
			l = c.spoilt(c.flowing(1+c.below(20), c.below(30)))
		case 2:
			l = c.anything(c.below(6))
		case 3:
			l = c.spoilt(c.flowing(1+c.below(66), c.below(30)))
		}
		was := slices.Clone(l)
		shortest, longest := wantLengths(l)
		if shortest > 0 {
			flowing++
			flows(t, shortest, longest, l...)
		} else {
			others++
			refused(t, l...)
		}
		if n%10 < 4 && len(l) < 25 {
			eachPlace(t, l)
		}
		if !slices.Equal(l, was) {
			t.Fatalf("of %+v came %+v", was, l)
		}
		if t.Failed() {
			return
		}
	}
	if flowing < 4000 || others < 4000 {
		t.Errorf("%d programs flow, %d don't", flowing, others)
	}
}

// follow goes through each way from a place on, and tells how many instructions each has that comes to an Exit.
func follow(t *testing.T, l []insn.Insn, at, steps int, told func(int)) {
	steps++
	if steps > len(l) {
		t.Fatalf("%+v: at %d after %d steps", l, at, steps)
	}
	if l[at].Op == 80 {
		told(steps)
		return
	}
	to := flow.Next(l, at)
	if len(to) == 0 {
		t.Fatalf("%+v: nothing follows %d", l, at)
	}
	for _, k := range to {
		if k < 0 || k >= len(l) {
			t.Fatalf("%+v: %d leads to %d", l, at, k)
		}
		follow(t, l, k, steps, told)
	}
}

// P20.2: each way of programs that flow comes to an Exit, and the longest and the shortest are as long as they are told to be.
func TestEachWay(t *testing.T) {
	c := chance(202)
	ways, unlike := 0, 0
	for range 3000 {
		l := c.flowing(1+c.below(24), c.below(30))
		if e := flow.Check(l...); e != api.OK {
			t.Fatalf("Check(%+v): %d", l, e)
		}
		shortest, longest := len(l)+1, 0
		follow(t, l, 0, 0, func(steps int) {
			shortest, longest = min(shortest, steps), max(longest, steps)
			ways++
		})
		flows(t, shortest, longest, l...)
		if shortest < longest {
			unlike++
		}
	}
	if ways < 20000 || unlike < 1000 {
		t.Errorf("%d ways, of %d programs unlike ones", ways, unlike)
	}
}

// P20.2: whatever is let in, of spoilt programs, too: each of its ways comes to an Exit.
func TestEachWayOfWhatIsLetIn(t *testing.T) {
	c := chance(2020)
	in := 0
	for range 40000 {
		var l []insn.Insn
		if c.below(2) == 0 {
			l = c.anything(1 + c.below(5))
		} else {
			l = c.spoilt(c.flowing(1+c.below(14), 20))
		}
		if flow.Check(l...) != api.OK {
			continue
		}
		in++
		follow(t, l, 0, 0, func(steps int) {
			if steps < flow.Shortest(l...) || steps > flow.Longest(l...) {
				t.Fatalf("%+v: a way of %d, of %d to %d", l, steps, flow.Shortest(l...), flow.Longest(l...))
			}
		})
	}
	if in < 5000 {
		t.Errorf("%d programs are let in", in)
	}
}

// P20.2: one way at a time through programs that have too many of them.
func TestSomeWays(t *testing.T) {
	c := chance(2002)
	for range 2000 {
		l := c.flowing(40+c.below(25), 10+c.below(20))
		shortest, longest := flow.Shortest(l...), flow.Longest(l...)
		for range 20 {
			steps, at := 1, 0
			for l[at].Op != 80 {
				to := flow.Next(l, at)
				at = to[c.below(len(to))]
				steps++
			}
			if steps < shortest || steps > longest || longest > len(l) {
				t.Fatalf("%+v: a way of %d, of %d to %d", l, steps, shortest, longest)
			}
		}
	}
}

// P20.2: programs that flow and are run come to their Exit within their longest way.
func TestRun(t *testing.T) {
	c := chance(22)
	for range 3000 {
		var l []insn.Insn
		for r := range 8 {
			l = append(l, insn.Insn{Op: insn.MovImm, Dst: r, Imm: c.below(5) - 2})
		}
		body := c.flowing(1+c.below(56), c.below(30))
		for at, i := range body {
			if i.Op != insn.Exit && !insn.IsJump(i.Op) {
				body[at] = insn.Insn{Op: insn.AddImm, Dst: c.below(8), Imm: c.below(5) - 2}
			}
		}
		l = append(l, body...)
		set, _ := maps.Make()
		x, e := vm.Run(hook.GetattrAsk, set, []int{7}, l...)
		if e != api.OK || x.How != vm.Done || x.Steps < flow.Shortest(l...) || x.Steps > flow.Longest(l...) {
			t.Fatalf("%+v: %+v, %d, of %d to %d", l, x, e, flow.Shortest(l...), flow.Longest(l...))
		}
	}
}
