package flow_test

import (
	"testing"

	"narthex/insn"
)

// P20.1: the chapter's example.
func TestExample(t *testing.T) {
	l := []insn.Insn{{Op: insn.JeqImm, Off: 1}, {Op: insn.Jump}, {Op: insn.Exit}}
	flows(t, 2, 3, l...)
	next(t, l, 0, 1, 2)
	next(t, l, 1, 2)
	next(t, l, 2)
	before(t, l, 0)
	before(t, l, 1, 0)
	before(t, l, 2, 0, 1)
}

// P20.1: no instructions don't flow, one Exit does, nor does any other one alone.
func TestNoneAndOne(t *testing.T) {
	refused(t)
	refused(t, []insn.Insn{}...)
	flows(t, 1, 1, exit)
	for _, i := range plain {
		refused(t, i)
	}
	for _, off := range []int{-32768, -2, -1, 0, 1, 2, 32767} {
		refused(t, jump(off))
		for _, op := range branches {
			refused(t, insn.Insn{Op: op, Off: off})
		}
	}
}

// P20.1: each instruction ahead of an Exit flows; as the last one it doesn't.
func TestLast(t *testing.T) {
	for _, i := range plain {
		flows(t, 2, 2, i, exit)
		flows(t, 3, 3, mov, i, exit)
		flows(t, 3, 4, when(1), i, mov, exit)
		refused(t, mov, i)
		refused(t, exit, i)
		refused(t, when(0), i)
		refused(t, when(1), exit, i)
	}
	for _, off := range []int{-1, 0, 1} {
		refused(t, mov, jump(off))
		refused(t, when(1), exit, jump(off))
		for _, op := range branches {
			i := insn.Insn{Op: op, Off: off}
			refused(t, mov, i)
			refused(t, when(1), exit, i)
		}
	}
	refused(t, mov, jump(-2))
	refused(t, mov, when(-2))
	flows(t, 2, 2, when(1), exit, exit)
}

// P20.1: instructions that aren't right don't flow, wherever they stand, though their ways do.
func TestNotRight(t *testing.T) {
	for _, i := range []insn.Insn{
		{}, {Op: -1}, {Op: 3}, {Op: 15}, {Op: 28}, {Op: 31}, {Op: 41}, {Op: 47}, {Op: 57}, {Op: 63}, {Op: 65}, {Op: 79}, {Op: 81}, {Op: 256 + 2}, {Op: 1<<32 + 2},
		{Op: 1, Dst: 8}, {Op: 1, Src: -1}, {Op: 1, Off: 1}, {Op: 1, Imm: 1}, {Op: 2, Src: 1}, {Op: 2, Imm: 1 << 31}, {Op: 26, Imm: 64}, {Op: 26, Imm: -1},
		{Op: 48, Off: 32768}, {Op: 49, Off: -32769}, {Op: 64, Dst: 1}, {Op: 64, Off: 1},
		{Op: 32, Dst: 1}, {Op: 32, Src: 1}, {Op: 32, Imm: 1}, {Op: 33, Imm: 1}, {Op: 34, Dst: 8}, {Op: 37, Src: 1}, {Op: 40, Imm: -1<<31 - 1},
	} {
		refused(t, i, exit)
		refused(t, mov, i, mov, exit)
		refused(t, when(1), i, exit)
	}
	for _, i := range []insn.Insn{{Op: 80, Dst: 1}, {Op: 80, Src: 1}, {Op: 80, Off: 1}, {Op: 80, Imm: 1}} {
		refused(t, i)
		refused(t, mov, i)
		refused(t, when(1), i, exit)
		refused(t, when(1), exit, i)
	}
}

// P20.1: jumps back, to themselves, just to the last instruction, just behind it and far behind.
func TestWhereJumpsLead(t *testing.T) {
	for _, n := range []int{1, 2, 5, 61, 62} {
		for _, op := range branches {
			// The jump is followed by n instructions, of which the last is the Exit.
			of := func(off int) []insn.Insn {
				return join([]insn.Insn{mov, {Op: op, Off: off}}, times(n-1, mov), []insn.Insn{exit})
			}
			for off := range n {
				flows(t, n+2-off, n+2, of(off)...)
			}
			for _, off := range []int{n, n + 1, n + 2, 63, 64, 255, 256, 32767, -1, -2, -3, -n, -n - 1, -64, -256, -32768} {
				refused(t, of(off)...)
			}
		}
		of := func(off int) []insn.Insn {
			return join([]insn.Insn{when(1), jump(off)}, times(n-1, mov), []insn.Insn{exit})
		}
		for off := range n {
			flows(t, min(n+1, n+2-off), max(n+1, n+2-off), of(off)...)
		}
		for _, off := range []int{n, n + 1, n + 2, 64, 256, 32767, -1, -2, -3, -64, -256, -32768} {
			refused(t, of(off)...)
		}
	}
}

// P20.1: an instruction that isn't come to, in the middle, at the end, behind an Exit and behind a Jump.
func TestNotComeTo(t *testing.T) {
	refused(t, exit, exit)
	refused(t, exit, mov, exit)
	refused(t, mov, exit, exit)
	refused(t, mov, exit, mov, exit)
	refused(t, jump(1), mov, exit)
	refused(t, jump(1), exit, exit)
	refused(t, jump(2), mov, mov, exit)
	refused(t, mov, jump(1), mov, mov, exit)
	refused(t, when(1), jump(2), jump(1), mov, exit)
	refused(t, when(2), exit, mov, exit)
	refused(t, when(2), jump(1), mov, exit)
	refused(t, when(1), exit, exit, exit)
	// One that isn't come to doesn't let another one be come to, not even itself.
	refused(t, exit, when(1), mov, exit)
	refused(t, jump(2), when(0), jump(0), exit)
	refused(t, jump(1), jump(-1), exit)
	refused(t, exit, jump(-1), exit)
	refused(t, when(3), exit, jump(0), jump(0), exit)
	refused(t, mov, when(2), exit, when(0), exit)
}

// P20.1: an instruction that is come to by one jump alone.
func TestComeToByOneJump(t *testing.T) {
	flows(t, 2, 2, when(1), exit, exit)
	flows(t, 2, 3, when(1), exit, mov, exit)
	flows(t, 3, 3, when(1), jump(1), mov, exit)
	flows(t, 3, 4, when(1), jump(2), mov, mov, exit)
	flows(t, 3, 3, when(1), jump(1), jump(0), exit)
	flows(t, 2, 3, when(2), mov, exit, exit)
	flows(t, 3, 3, mov, when(1), exit, exit)
	// Each behind an Exit is come to by a jump of its own.
	flows(t, 2, 4, when(1), exit, when(1), exit, when(1), exit, exit)
	flows(t, 3, 3, when(3), when(1), exit, exit, when(1), exit, exit)
}

// P20.1: as many instructions as a program may have, and one more.
func TestHowMany(t *testing.T) {
	for n := range 70 {
		l := append(times(n, mov), exit)
		if n < 64 {
			flows(t, n+1, n+1, l...)
		} else {
			refused(t, l...)
		}
	}
	refused(t, append(times(99999, mov), exit)...)
	refused(t, append(times(64, when(0)), exit)...)
	flows(t, 64, 64, append(times(63, when(0)), exit)...)
	flows(t, 64, 64, append(times(63, jump(0)), exit)...)
}
