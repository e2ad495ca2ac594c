package flow_test

import (
	"math"
	"slices"
	"testing"

	"narthex/flow"
	"narthex/insn"
)

// P20.1: ahead of the first and behind the last instruction nothing follows.
func TestNextOfNoPlace(t *testing.T) {
	for _, l := range [][]insn.Insn{nil, {}, {exit}, {mov}, {jump(0)}, {when(3), mov, exit}, times(64, mov), times(100, when(-1))} {
		for _, at := range []int{math.MinInt, math.MinInt + 1, -65536, -64, -2, -1, len(l), len(l) + 1, len(l) + 64, 65536, math.MaxInt - 1, math.MaxInt} {
			next(t, l, at)
		}
	}
}

// P20.1: what follows each kind of instruction, at the beginning, in the middle and at the end, whether the program flows or not.
func TestNextOfEachKind(t *testing.T) {
	for _, at := range []int{0, 1, 2, 30, 62, 63, 64, 100} {
		for _, behind := range []int{0, 1, 2, 30} {
			of := func(i insn.Insn) []insn.Insn {
				return join(times(at, exit), []insn.Insn{i}, times(behind, exit))
			}
			next(t, of(exit), at)
			for _, i := range plain {
				next(t, of(i), at, at+1)
			}
			for _, off := range []int{-32768, -at - 2, -at - 1, -at, -2, -1, 0, 1, 2, behind - 1, behind, behind + 1, 32767} {
				next(t, of(jump(off)), at, at+1+off)
				for _, op := range branches {
					l := of(insn.Insn{Op: op, Off: off})
					switch {
					case off < 0:
						next(t, l, at, at+1+off, at+1)
					case off == 0:
						next(t, l, at, at+1)
					case off > 0:
						next(t, l, at, at+1, at+1+off)
					}
				}
			}
		}
	}
}

// P20.1: what follows, written out.
func TestNextWrittenOut(t *testing.T) {
	l := []insn.Insn{when(2), mov, jump(-1), exit, {Op: 36, Off: -5}, {Op: 34}, jump(0), {Op: 35, Off: 9}, {Op: 64, Imm: 4}}
	next(t, l, 0, 1, 3)
	next(t, l, 1, 2)
	next(t, l, 2, 2)
	next(t, l, 3)
	next(t, l, 4, 0, 5)
	next(t, l, 5, 6)
	next(t, l, 6, 7)
	next(t, l, 7, 8, 17)
	next(t, l, 8, 9)
	next(t, l, 9)
	next(t, l[4:5], 0, -4, 1)
	next(t, l[2:3], 0, 0)
	next(t, l[7:8], 0, 1, 10)
}

// P20.1: of instructions that aren't right, too, of what is no Op as of all others.
func TestNextOfNotRight(t *testing.T) {
	for _, op := range []int{-1, 0, 3, 31, 41, 65, 79, 81, 99, 256 + 32, 256 + 80, math.MinInt, math.MaxInt} {
		for _, off := range []int{-1, 0, 1, 5, math.MaxInt} {
			next(t, []insn.Insn{{Op: op, Off: off}, exit}, 0, 1)
			next(t, []insn.Insn{exit, {Op: op, Off: off}}, 1, 2)
		}
	}
	next(t, []insn.Insn{{Op: 80, Dst: 9, Src: 9, Off: 9, Imm: 9}}, 0)
	next(t, []insn.Insn{{Op: 1, Dst: 9, Src: 9, Off: 9, Imm: 9}}, 0, 1)
	next(t, []insn.Insn{{Op: 48, Dst: 9, Off: 99999}}, 0, 1)
	next(t, []insn.Insn{{Op: 32, Dst: 9, Src: 9, Off: 9, Imm: 9}}, 0, 10)
	next(t, []insn.Insn{{Op: 37, Dst: 9, Src: 9, Off: 9, Imm: 9}}, 0, 1, 10)
	next(t, []insn.Insn{jump(65536)}, 0, 65537)
	next(t, []insn.Insn{when(65536)}, 0, 1, 65537)
	next(t, []insn.Insn{jump(-65537)}, 0, -65536)
	next(t, []insn.Insn{when(-65537)}, 0, -65536, 1)
	next(t, []insn.Insn{jump(math.MinInt)}, 0, math.MinInt+1)
	next(t, []insn.Insn{when(math.MinInt)}, 0, math.MinInt+1, 1)
	next(t, []insn.Insn{jump(math.MaxInt - 1)}, 0, math.MaxInt)
	next(t, []insn.Insn{when(math.MaxInt - 1)}, 0, 1, math.MaxInt)
}

// P20.1: a place that no number tells is none, rather than one ahead of the first instruction.
func TestNextTooFar(t *testing.T) {
	for at := range 4 {
		far := math.MaxInt - at
		l := append(times(at, mov), jump(far), exit)
		next(t, l, at)
		l[at] = when(far)
		next(t, l, at, at+1)
		before(t, l, math.MinInt)
		l[at] = when(far - 1)
		next(t, l, at, at+1, math.MaxInt)
		before(t, l, math.MaxInt, at)
		l[at] = when(math.MaxInt)
		next(t, l, at, at+1)
		refused(t, l...)
	}
}

// P20.1: what a place follows, written out; of places that there aren't, too.
func TestBeforeWrittenOut(t *testing.T) {
	l := []insn.Insn{when(2), mov, jump(-1), exit, {Op: 36, Off: -5}, {Op: 34}, jump(0), {Op: 35, Off: 9}, {Op: 64, Imm: 4}}
	before(t, l, -1)
	before(t, l, 0, 4)
	before(t, l, 1, 0)
	before(t, l, 2, 1, 2)
	before(t, l, 3, 0)
	before(t, l, 4)
	before(t, l, 5, 4)
	before(t, l, 6, 5)
	before(t, l, 7, 6)
	before(t, l, 8, 7)
	before(t, l, 9, 8)
	before(t, l, 10)
	before(t, l, 17, 7)
	before(t, l[4:5], -4, 0)
	before(t, l[4:5], 1, 0)
	before(t, l[4:5], 0)
	before(t, l[2:3], 0, 0)
	before(t, times(3, when(-1)), 0, 0)
	before(t, times(3, when(-1)), 1, 0, 1)
	before(t, times(3, when(-1)), 3, 2)
	before(t, []insn.Insn{when(3), when(2), jump(1), when(0), exit}, 4, 0, 1, 2, 3)
	before(t, []insn.Insn{when(3), jump(2), exit, jump(0), exit}, 4, 0, 1, 3)
	for _, at := range []int{math.MinInt, -1, 0, 1, math.MaxInt} {
		before(t, nil, at)
		before(t, times(3, exit), at)
	}
}

// eachPlace holds Next and Before of each place against one another, and against the model.
func eachPlace(t *testing.T, l []insn.Insn) {
	t.Helper()
	places, follow := wantAt(l), wantAll(l)
	for _, at := range places {
		var want []int
		if at >= 0 && at < len(l) {
			want = follow[at]
		}
		if got := flow.Next(l, at); !slices.Equal(got, want) {
			t.Fatalf("Next(%+v, %d): %v, not %v", l, at, got, want)
		}
		got, want := flow.Before(l, at), wantBefore(l, at)
		if !slices.Equal(got, want) {
			t.Fatalf("Before(%+v, %d): %v, not %v", l, at, got, want)
		}
		for _, from := range places {
			if slices.Contains(got, from) != slices.Contains(flow.Next(l, from), at) {
				t.Fatalf("Before(%+v, %d): %v, and Next of %d: %v", l, at, got, from, flow.Next(l, from))
			}
		}
	}
}

// P20.1: Next and Before of each place of programs that flow and of others, held against one another.
func TestNextAndBefore(t *testing.T) {
	for _, l := range [][]insn.Insn{
		nil, {exit}, {mov}, {jump(0)}, {jump(-1)}, {jump(-2)}, {jump(5)}, {when(0)}, {when(-1)}, {when(-2)}, {when(5)},
		{when(1), jump(0), exit}, {when(1), exit, mov, exit}, {mov, when(-2), when(-3), jump(-4), exit}, {when(100), when(99), when(98), exit},
		times(64, when(0)), times(64, when(1)), times(64, when(-1)), times(80, jump(-3)), times(80, when(7)), {when(math.MaxInt), mov, jump(math.MinInt), exit},
	} {
		eachPlace(t, l)
	}
}
