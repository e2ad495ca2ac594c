package flow_test

import (
	"math"
	"slices"
	"testing"

	"narthex/api"
	"narthex/flow"
	"narthex/insn"
)

// chance is numbers that look like chance, the same in each run.
type chance uint32

func (c *chance) below(n int) int {
	*c = *c*1664525 + 1013904223
	return int(*c>>8) % n
}

// plain is a right instruction of each Op that is neither a jump nor Exit.
var plain = []insn.Insn{
	{Op: 1, Dst: 3, Src: 5}, {Op: 2, Dst: 3, Imm: -1}, {Op: 16, Dst: 7, Src: 7}, {Op: 17, Dst: 7}, {Op: 18, Src: 7}, {Op: 19, Dst: 1, Src: 2}, {Op: 20, Dst: 4, Src: 6},
	{Op: 21, Dst: 1, Imm: 1}, {Op: 22, Dst: 2, Imm: 258}, {Op: 23, Dst: 3, Imm: 4}, {Op: 24, Dst: 4, Imm: 2147483647}, {Op: 25, Dst: 5, Imm: -2147483648}, {Op: 26, Dst: 6, Imm: 63}, {Op: 27, Dst: 7, Imm: 32},
	{Op: 48, Dst: 5, Off: 3}, {Op: 49, Src: 5, Off: -4}, {Op: 50, Dst: 6, Src: 1}, {Op: 51, Dst: 2, Off: 7}, {Op: 52, Src: 2, Off: -7}, {Op: 53, Dst: 1, Src: 7}, {Op: 54, Dst: 7, Src: 1}, {Op: 55, Dst: 2, Src: 3, Off: 1}, {Op: 56, Dst: 3, Src: 2, Off: -256},
	{Op: 64, Imm: 4},
}

// branches are the Ops of the jumps that may or may not be taken.
var branches = []int{33, 34, 35, 36, 37, 38, 39, 40}

var (
	mov  = insn.Insn{Op: 2, Dst: 3, Imm: 7}
	exit = insn.Insn{Op: 80}
)

func jump(off int) insn.Insn { return insn.Insn{Op: 32, Off: off} }

func when(off int) insn.Insn { return insn.Insn{Op: 37, Dst: 1, Off: off, Imm: 5} }

// times is an instruction so often.
func times(n int, i insn.Insn) []insn.Insn { return slices.Repeat([]insn.Insn{i}, n) }

// join is programs, one behind the other.
func join(l ...[]insn.Insn) []insn.Insn { return slices.Concat(l...) }

// wantFollows tells whether a place follows another one: it reckons how far they are apart, and holds that against Off.
func wantFollows(l []insn.Insn, at, to int) bool {
	if at < 0 || at >= len(l) || l[at].Op == 80 {
		return false
	}
	next := to == at+1
	if l[at].Op < 32 || l[at].Op > 40 {
		return next
	}
	// Of what is so far ahead that no number tells how far, no Off leads there.
	jumped := to > math.MinInt+at && to-at-1 == l[at].Off
	if l[at].Op == 32 {
		return jumped
	}
	return next || jumped
}

// wantAt is where any place may be to which an instruction leads.
func wantAt(l []insn.Insn) []int {
	all := []int{-1, 0, len(l), len(l) + 1, 1000, -1000, math.MinInt, math.MaxInt}
	for at, i := range l {
		all = append(all, at, at+1)
		if i.Off < 1<<62 {
			all = append(all, at+1+i.Off)
		}
	}
	slices.Sort(all)
	return slices.Compact(all)
}

// wantAll is what follows each instruction.
func wantAll(l []insn.Insn) [][]int {
	places := wantAt(l)
	all := make([][]int, len(l))
	for at := range l {
		for _, k := range places {
			if wantFollows(l, at, k) {
				all[at] = append(all[at], k)
			}
		}
	}
	return all
}

// wantBefore asks each instruction whether the place follows it.
func wantBefore(l []insn.Insn, at int) []int {
	var from []int
	for k := range l {
		if wantFollows(l, k, at) {
			from = append(from, k)
		}
	}
	return from
}

// wantFlows goes on from all places that are come to, till there are no more.
func wantFlows(l []insn.Insn) bool {
	if !insn.Right(l...) {
		return false
	}
	come := map[int]bool{0: true}
	all := wantAll(l)
	for range l {
		for at := range l {
			for _, to := range all[at] {
				if to <= at || to > len(l)-1 {
					return false
				}
				if come[at] {
					come[to] = true
				}
			}
		}
	}
	return len(come) == len(l)
}

// wantLengths is the shortest and the longest way's length: all places where one may be are gone through, step by step.
func wantLengths(l []insn.Insn) (shortest, longest int) {
	if !wantFlows(l) {
		return 0, 0
	}
	all := wantAll(l)
	here := map[int]bool{0: true}
	for n := 1; len(here) > 0; n++ {
		behind := map[int]bool{}
		for at := range here {
			if l[at].Op == 80 {
				longest = n
				if shortest == 0 {
					shortest = n
				}
			}
			for _, to := range all[at] {
				behind[to] = true
			}
		}
		here = behind
	}
	return shortest, longest
}

// flows asks that a program flows, and for its ways' lengths.
func flows(t *testing.T, shortest, longest int, l ...insn.Insn) {
	t.Helper()
	if e := flow.Check(l...); e != api.OK {
		t.Errorf("Check(%+v): %d", l, e)
	}
	if a, b := flow.Shortest(l...), flow.Longest(l...); a != shortest || b != longest {
		t.Errorf("Shortest and Longest of %+v: %d, %d, not %d, %d", l, a, b, shortest, longest)
	}
}

// refused asks that a program doesn't flow, and has no ways.
func refused(t *testing.T, l ...insn.Insn) {
	t.Helper()
	if e := flow.Check(l...); e != api.EINVAL {
		t.Errorf("Check(%+v): %d", l, e)
	}
	if a, b := flow.Shortest(l...), flow.Longest(l...); a != 0 || b != 0 {
		t.Errorf("Shortest and Longest of %+v: %d, %d", l, a, b)
	}
}

// next asks what follows a place.
func next(t *testing.T, l []insn.Insn, at int, want ...int) {
	t.Helper()
	if got := flow.Next(l, at); !slices.Equal(got, want) {
		t.Errorf("Next(%+v, %d): %v, not %v", l, at, got, want)
	}
}

// before asks what a place follows.
func before(t *testing.T, l []insn.Insn, at int, want ...int) {
	t.Helper()
	if got := flow.Before(l, at); !slices.Equal(got, want) {
		t.Errorf("Before(%+v, %d): %v, not %v", l, at, got, want)
	}
}
