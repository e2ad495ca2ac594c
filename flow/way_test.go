package flow_test

import (
	"slices"
	"testing"

	"narthex/api"
	"narthex/flow"
	"narthex/insn"
)

// P20.1: of one way alone the longest and the shortest are the same.
func TestOneWay(t *testing.T) {
	for n := range 64 {
		flows(t, n+1, n+1, append(times(n, mov), exit)...)
		flows(t, n+1, n+1, append(times(n, jump(0)), exit)...)
		flows(t, n+1, n+1, append(times(n, when(0)), exit)...)
	}
}

// P20.1: many ways, written out.
func TestManyWays(t *testing.T) {
	flows(t, 2, 4, when(2), mov, mov, exit)
	flows(t, 3, 5, mov, when(2), mov, mov, exit)
	flows(t, 2, 4, when(2), when(1), mov, exit)
	flows(t, 2, 3, when(2), when(0), exit, exit)
	flows(t, 3, 4, when(1), mov, when(1), exit, exit)
	flows(t, 3, 5, when(1), mov, when(1), mov, exit)
	flows(t, 2, 2, when(1), exit, exit)
	flows(t, 2, 4, when(1), exit, mov, mov, exit)
	flows(t, 2, 4, when(2), mov, jump(1), exit, exit)
}

// P20.1: the longest and the shortest way part at different jumps; the nearer way isn't the shorter one, nor the farther one the longer.
func TestWaysThroughDifferentJumps(t *testing.T) {
	// Those that don't jump at 0 come to an Exit soon, those that jump go on for long.
	flows(t, 3, 6, when(2), mov, exit, mov, mov, mov, mov, exit)
	// Those that don't jump at 0 go on for long.
	flows(t, 3, 6, when(5), mov, mov, mov, mov, exit, mov, exit)
	// At 0 the longest way jumps, at 4 it doesn't; at 0 the shortest one doesn't, at 1 it does.
	flows(t, 3, 7, when(3), when(1), mov, exit, when(3), mov, mov, mov, mov, exit)
	// The longest way doesn't jump at 0, but at 1; of the shortest there are two.
	flows(t, 3, 5, when(2), when(3), exit, mov, exit, mov, mov, exit)
	// A Jump leads over what another way goes through.
	flows(t, 4, 6, when(1), jump(3), mov, mov, mov, mov, exit)
	flows(t, 3, 5, when(4), mov, mov, mov, exit, jump(0), exit)
}

// P20.1: so many ways that they can't be gone through one by one.
func TestMostWays(t *testing.T) {
	l := join(times(62, when(1)), []insn.Insn{mov, exit})
	flows(t, 33, 64, l...)
	for at := range 62 {
		l[at].Off = 62 - at
	}
	flows(t, 2, 64, l...)
	for at := range 62 {
		l[at].Off = min(7, 62-at)
	}
	flows(t, 9, 64, l...)
}

// P20.1: ways of instructions that don't flow have no length, though some of them end.
func TestNoWay(t *testing.T) {
	for _, l := range [][]insn.Insn{
		{}, {mov}, {when(0)}, {mov, exit, exit}, {when(1), exit, mov}, {when(-1), exit}, {mov, when(-2), exit}, {when(2), mov, exit}, {jump(1), mov, exit}, {jump(0), {Op: 99}, exit},
		append(times(64, mov), exit), append(times(63, when(0)), mov), times(64, exit), {{Op: 1, Imm: 1}, exit}, {mov, {Op: 80, Imm: 1}},
	} {
		refused(t, l...)
	}
}

// P20.1: instructions stay as they are, and so does what lies behind them.
func TestArgumentsStay(t *testing.T) {
	for _, n := range []int{0, 1, 3, 64, 65} {
		for _, i := range []insn.Insn{mov, jump(0), jump(-1), when(1), when(-1), when(99), exit, {Op: 99, Dst: 9}} {
			whole := join(times(n, i), []insn.Insn{exit, mov, when(3), exit})
			was := slices.Clone(whole)
			for _, l := range [][]insn.Insn{whole[:n], whole[:n+1]} {
				flow.Check(l...)
				flow.Longest(l...)
				flow.Shortest(l...)
				for at := -2; at < n+3; at++ {
					flow.Next(l, at)
					flow.Before(l, at)
				}
			}
			if !slices.Equal(whole, was) {
				t.Errorf("of %+v came %+v", was, whole)
			}
		}
	}
}

// P20.1: no two answers share memory, nor does what is kept of instructions that were handed in.
func TestNothingShared(t *testing.T) {
	l := []insn.Insn{when(2), mov, when(0), mov, exit}
	for range 3 {
		for _, ask := range []func() []int{
			func() []int { return flow.Next(l, 0) },
			func() []int { return flow.Next(l, 1) },
			func() []int { return flow.Next(l, 2) },
			func() []int { return flow.Before(l, 3) },
		} {
			first := ask()
			want := slices.Clone(first)
			second := ask()
			for k := range first[:cap(first)] {
				first[:cap(first)][k] = -77
			}
			if !slices.Equal(second, want) || !slices.Equal(ask(), want) {
				t.Errorf("%v and %v, not %v", second, ask(), want)
			}
		}
	}
	flows(t, 3, 5, l...)
	l[0], l[1] = mov, exit
	refused(t, l...)
	next(t, l, 0, 1)
	next(t, l, 1)
	before(t, l, 3, 2)
	before(t, l, 2)
	l[2] = mov
	flows(t, 2, 2, l[:2]...)
	refused(t, l[:1]...)
	if e := flow.Check(l[2:]...); e != api.OK {
		t.Errorf("Check(%+v): %d", l[2:], e)
	}
}
