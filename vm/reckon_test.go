package vm_test

import (
	"math"
	"slices"
	"testing"

	"narthex/insn"
	"narthex/maps"
	"narthex/vm"
)

// P19.1: MovImm loads each Imm as it is, into each register, whatever was there; Mov copies it on.
func TestMovImm(t *testing.T) {
	for _, n := range []int{math.MinInt32, math.MinInt32 + 1, -65536, -1, 0, 1, 65535, math.MaxInt32 - 1, math.MaxInt32} {
		ends(t, 0, n, 2, 8, zeros(8), imm(0, n), exit())
		ends(t, 0, n, 3, 8, zeros(8), imm(0, 8), imm(0, n), exit())
		for a := range 8 {
			for b := range 8 {
				ends(t, 0, n, 4, 8, zeros(8), imm(a, n), mov(b, a), mov(0, b), exit())
			}
		}
	}
}

// P19.1: Mov leaves the register that it copies, and copies what is there then.
func TestMov(t *testing.T) {
	ends(t, 0, 5, 6, 8, zeros(8), imm(3, 5), mov(4, 3), imm(4, 6), mov(5, 3), mov(0, 5), exit())
	ends(t, 0, 5, 5, 8, zeros(8), imm(3, 5), mov(4, 3), imm(3, 6), mov(0, 4), exit())
	for k := range 8 {
		ends(t, 0, k, 10, 8, zeros(8), imm(0, 0), imm(1, 1), imm(2, 2), imm(3, 3), imm(4, 4), imm(5, 5), imm(6, 6), imm(7, 7), mov(0, k), exit())
	}
}

// P19.1: Mov of a reference: both registers refer to the same value, and each stays one if the other changes.
func TestMovOfReference(t *testing.T) {
	h, ctx := 4, zeros(4)
	l := append(refTo(6, 0, 5), mov(7, 6), imm(1, 99), storeVal(7, 1, 1))
	ends(t, 0, 99, 9, h, ctx, append(slices.Clone(l), loadVal(0, 6, 1), exit())...)
	ends(t, 0, 40, 9, h, ctx, append(slices.Clone(l), loadVal(0, 7, 0), exit())...)
	ends(t, 0, 99, 10, h, ctx, append(slices.Clone(l), imm(6, 1), loadVal(0, 7, 1), exit())...)
	ends(t, 0, 99, 10, h, ctx, append(slices.Clone(l), imm(7, 1), loadVal(0, 6, 1), exit())...)
	ends(t, 0, 99, 10, h, ctx, append(slices.Clone(l), mov(7, 7), loadVal(0, 7, 1), exit())...)
	ends(t, vm.NoNumber, 0, 8, h, ctx, append(slices.Clone(l), mov(0, 7), exit())...)
	// Of a number over a reference, and the other way round.
	ends(t, 0, 1, 8, h, ctx, append(refTo(6, 0, 5), imm(7, 1), mov(6, 7), mov(0, 6), exit())...)
	ends(t, 0, 40, 8, h, ctx, append(refTo(6, 0, 5), imm(7, 1), mov(7, 6), loadVal(0, 7, 0), exit())...)
	// A stale one is copied, too.
	ends(t, vm.Stale, 0, 8, h, ctx, append(staleIn(6), mov(7, 6), loadVal(0, 7, 0), exit())...)
}

// written is arithmetic's answers, written out.
var written = []struct{ op, a, b, want int }{
	{insn.Add, 2, 3, 5}, {insn.Add, math.MaxInt, 1, math.MinInt}, {insn.Add, math.MinInt, -1, math.MaxInt}, {insn.Add, math.MinInt, math.MinInt, 0},
	{insn.Sub, 2, 3, -1}, {insn.Sub, 3, 2, 1}, {insn.Sub, math.MinInt, 1, math.MaxInt}, {insn.Sub, 0, math.MinInt, math.MinInt},
	{insn.And, 12, 10, 8}, {insn.And, -1, 63, 63}, {insn.And, math.MinInt, math.MaxInt, 0}, {insn.And, -2, 7, 6},
	{insn.Or, 12, 10, 14}, {insn.Or, -1, 63, -1}, {insn.Or, math.MinInt, math.MaxInt, -1}, {insn.Or, 1, 2, 3},
	{insn.Mul, 6, 7, 42}, {insn.Mul, -1, math.MinInt, math.MinInt}, {insn.Mul, math.MaxInt, 2, -2}, {insn.Mul, 1 << 32, 1 << 32, 0}, {insn.Mul, -3, 5, -15},
	{insn.AddImm, 2, 3, 5}, {insn.AddImm, math.MaxInt, 1, math.MinInt}, {insn.AddImm, 5, -7, -2}, {insn.AddImm, math.MaxInt, math.MaxInt32, math.MinInt + math.MaxInt32 - 1},
	{insn.SubImm, 2, 3, -1}, {insn.SubImm, math.MinInt, 1, math.MaxInt}, {insn.SubImm, 5, -7, 12}, {insn.SubImm, 0, math.MinInt32, 1 << 31},
	{insn.AndImm, 12, 10, 8}, {insn.AndImm, -1, -1, -1}, {insn.AndImm, math.MinInt, -1, math.MinInt}, {insn.AndImm, 1<<32 + 3, -2, 1<<32 + 2}, {insn.AndImm, -1, math.MaxInt32, math.MaxInt32},
	{insn.OrImm, 12, 10, 14}, {insn.OrImm, 0, -1, -1}, {insn.OrImm, math.MinInt, 1, math.MinInt + 1}, {insn.OrImm, 1 << 40, math.MinInt32, math.MinInt32},
	{insn.MulImm, 6, 7, 42}, {insn.MulImm, math.MinInt, -1, math.MinInt}, {insn.MulImm, 1 << 33, math.MinInt32, 0}, {insn.MulImm, -3, -5, 15},
	{insn.ShlImm, 1, 0, 1}, {insn.ShlImm, 1, 63, math.MinInt}, {insn.ShlImm, 3, 63, math.MinInt}, {insn.ShlImm, -1, 1, -2}, {insn.ShlImm, 2, 63, 0}, {insn.ShlImm, 5, 3, 40},
	{insn.ShrImm, 1, 0, 1}, {insn.ShrImm, -1, 0, -1}, {insn.ShrImm, -1, 63, 1}, {insn.ShrImm, -1, 1, math.MaxInt}, {insn.ShrImm, math.MinInt, 63, 1}, {insn.ShrImm, math.MaxInt, 63, 0}, {insn.ShrImm, -8, 2, 1<<62 - 2}, {insn.ShrImm, 40, 3, 5},
}

// P19.1: arithmetic, written out, by registers or by Imm.
func TestArithmeticWrittenOut(t *testing.T) {
	for _, w := range written {
		if insn.HasImm(w.op) {
			ends(t, 0, w.want, 3, 5, []int{w.a, 0, 0}, loadCtx(0, 0), with(w.op, 0, w.b), exit())
		} else {
			ends(t, 0, w.want, 4, 5, []int{w.a, w.b, 0}, loadCtx(0, 0), loadCtx(1, 1), two(w.op, 0, 1), exit())
		}
	}
}

// P19.1: arithmetic of all pairs of far numbers, of each register with each other one and with itself, against numbers without bounds; Src stays.
func TestArithmetic(t *testing.T) {
	for op := insn.Add; op <= insn.Mul; op++ {
		for _, a := range farInts {
			for _, b := range farInts {
				ctx := []int{a, b, 0}
				l := []insn.Insn{loadCtx(6, 0), loadCtx(7, 1), two(op, 6, 7)}
				ends(t, 0, reckoned(op, a, b), 5, 5, ctx, append(l, mov(0, 6), exit())...)
				ends(t, 0, b, 5, 5, ctx, append(l, mov(0, 7), exit())...)
			}
			ends(t, 0, reckoned(op, a, a), 3, 5, []int{a, 0, 0}, loadCtx(0, 0), two(op, 0, 0), exit())
		}
		for a := range 8 {
			for b := range 8 {
				if a != b {
					ends(t, 0, reckoned(op, 13, 7), 5, 5, []int{13, 7, 0}, loadCtx(a, 0), loadCtx(b, 1), two(op, a, b), mov(0, a), exit())
				}
			}
		}
	}
}

// P19.1: the same with Imm; shifts by each number of bits.
func TestArithmeticWithImm(t *testing.T) {
	for op := insn.AddImm; op <= insn.ShrImm; op++ {
		imms := []int{math.MinInt32, math.MinInt32 + 1, -64, -63, -2, -1, 0, 1, 2, 3, 31, 32, 62, 63, 64, math.MaxInt32 - 1, math.MaxInt32}
		if op >= insn.ShlImm {
			imms = imms[:0]
			for n := range 64 {
				imms = append(imms, n)
			}
		}
		for _, a := range farInts {
			for _, n := range imms {
				ends(t, 0, reckoned(op, a, n), 3, 5, []int{a, 0, 0}, loadCtx(0, 0), with(op, 0, n), exit())
			}
		}
		for k := range 8 {
			ends(t, 0, reckoned(op, -13, 7), 4, 5, []int{-13, 0, 0}, loadCtx(k, 0), with(op, k, 7), mov(0, k), exit())
		}
	}
}

// jumped asks where a jump leads: taken, over an instruction that isn't done, or on.
func jumped(t *testing.T, taken bool, ctx []int, i insn.Insn, ahead ...insn.Insn) {
	t.Helper()
	i.Off = 2
	verdict, steps := 1, len(ahead)+3
	if taken {
		verdict = 2
	}
	ends(t, 0, verdict, steps, 5, ctx, append(slices.Clone(ahead), i, imm(0, 1), exit(), imm(0, 2), exit())...)
}

// P19.1: all jumps of all pairs of far numbers, taken and not.
func TestJumps(t *testing.T) {
	for _, a := range farInts {
		for _, b := range farInts {
			ctx := []int{a, b, 0}
			ahead := []insn.Insn{loadCtx(6, 0), loadCtx(7, 1)}
			for op, taken := range map[int]bool{insn.Jeq: a == b, insn.Jne: a != b, insn.Jlt: a < b, insn.Jge: a >= b} {
				jumped(t, taken, ctx, two(op, 6, 7), ahead...)
			}
			if b < math.MinInt32 || b > math.MaxInt32 {
				continue
			}
			for op, taken := range map[int]bool{insn.JeqImm: a == b, insn.JneImm: a != b, insn.JltImm: a < b, insn.JgeImm: a >= b} {
				jumped(t, taken, ctx, with(op, 6, b), ahead...)
			}
		}
	}
	jumped(t, true, zeros(5), jump(0))
	for op, taken := range map[int]bool{insn.Jeq: true, insn.Jne: false, insn.Jlt: false, insn.Jge: true} {
		jumped(t, taken, zeros(5), two(op, 3, 3), imm(3, 5))
	}
}

// P19.1: jumps leave their registers as they are.
func TestJumpsChangeNothing(t *testing.T) {
	for op := insn.Jeq; op <= insn.JgeImm; op++ {
		for _, want := range []insn.Insn{mov(0, 6), mov(0, 7)} {
			i := insn.Insn{Op: op, Dst: 6}
			if !insn.HasImm(op) {
				i.Src = 7
			}
			ends(t, 0, 10+want.Src, 5, 5, zeros(5), imm(6, 16), imm(7, 17), i, want, exit())
		}
	}
}

// P19.1: JeqImm and JneImm with Imm 0 read a reference, which isn't 0, though its key is, or its value, or it was dropped; it stays one.
func TestZeroAtReference(t *testing.T) {
	h, ctx := 4, zeros(4)
	for op, want := range map[int]int{insn.JeqImm: 1, insn.JneImm: 2} {
		l := []insn.Insn{jumpBy(op, 6, 0, 2), imm(0, 1), exit(), imm(0, 2), exit()}
		ends(t, 0, want, 7, h, ctx, append(refTo(6, 0, 5), l...)...)
		ends(t, 0, want, 10, h, ctx, append(staleIn(6), l...)...)
		ends(t, 0, 40, 7, h, ctx, append(refTo(6, 0, 5), jumpBy(op, 6, 0, 0), loadVal(0, 6, 0), exit())...)
		zero := []*plainMap{{kind: 1, room: 1, list: []maps.Entry{{}}}}
		if o, _ := runWith(t, zero, h, ctx, append(refTo(6, 0, 0), l...)...); o.How != 1 || o.Verdict != want {
			t.Errorf("%+v", o)
		}
		// What wasn't found is the number 0.
		ends(t, 0, 3-want, 7, h, ctx, append(refTo(6, 0, 4), l...)...)
	}
}

// P19.1: where jumps lead: the next instruction with Off 0, the last one, back, and itself.
func TestWhereJumpsLead(t *testing.T) {
	ctx := zeros(8)
	ends(t, 0, 1, 3, 8, ctx, imm(0, 1), jump(0), exit())
	ends(t, 0, 1, 3, 8, ctx, imm(0, 1), jump(3), imm(0, 2), imm(0, 3), imm(0, 4), exit())
	ends(t, vm.Outside, 0, 2, 8, ctx, imm(0, 1), jump(4), imm(0, 2), imm(0, 3), imm(0, 4), exit())
	ends(t, vm.Outside, 0, 2, 8, ctx, imm(0, 1), jump(5), imm(0, 2), imm(0, 3), imm(0, 4), exit())
	ends(t, 0, 9, 5, 8, ctx, jump(2), imm(0, 9), exit(), imm(0, 5), jump(-4))
	ends(t, vm.Outside, 0, 3, 8, ctx, jump(2), imm(0, 9), exit(), imm(0, 5), jump(-6))
	ends(t, 0, 5, 7, 8, ctx, imm(0, 5), jumpBy(insn.JltImm, 0, 5, 2), mov(1, 0), jumpBy(insn.JeqImm, 1, 5, 1), exit(), imm(2, 1), jump(-3))
	// To the first one: the second time it leads on.
	ends(t, 0, 7, 8, 5, []int{7, 0, 0}, loadCtx(0, 4), jumpBy(insn.JneImm, 0, 0, 3), loadCtx(0, 0), storeCtx(4, 0), jump(-5), exit())
	// Over as many as there may be.
	l := append([]insn.Insn{imm(0, 3), jump(61)}, slices.Repeat([]insn.Insn{jump(-1)}, 61)...)
	ends(t, 0, 3, 3, 8, ctx, append(l, exit())...)
}

// P19.1: a loop counts.
func TestLoop(t *testing.T) {
	for n := 1; n <= 20; n++ {
		l := []insn.Insn{imm(0, 0), imm(1, 0), with(insn.AddImm, 1, 1), two(insn.Add, 0, 1), jumpBy(insn.JltImm, 1, n, -3), exit()}
		ends(t, 0, n*(n+1)/2, 3*n+3, 8, zeros(8), l...)
	}
}
