package vm_test

import (
	"math"
	"slices"
	"testing"

	"narthex/insn"
	"narthex/maps"
	"narthex/vm"
)

// The Ops by the registers that they read.
var (
	readDst  = []int{insn.AddImm, insn.SubImm, insn.AndImm, insn.OrImm, insn.MulImm, insn.ShlImm, insn.ShrImm, insn.JeqImm, insn.JneImm, insn.JltImm, insn.JgeImm}
	readSrc  = []int{insn.Mov, insn.StoreCtx, insn.LoadCtxAt, insn.StoreStack, insn.LoadStackAt, insn.LoadVal}
	readBoth = []int{insn.Add, insn.Sub, insn.And, insn.Or, insn.Mul, insn.Jeq, insn.Jne, insn.Jlt, insn.Jge, insn.StoreStackAt, insn.StoreVal}
)

// far are numbers that are no field's, word's, slot's, map's or helper's.
var far = []int{math.MinInt, math.MinInt + 1, -1 << 32, math.MinInt32, -32768, -256, -2, -1, 32767, math.MaxInt32, 1 << 32, 1<<32 + 1, 1 << 62, math.MaxInt}

// farOffs are those of them that may stand in Off.
var farOffs = []int{-32768, -256, -2, -1, 256, 257, 32767}

// usual is an instruction of an Op that reads, with Dst 6 and Src 7.
func usual(op int) insn.Insn {
	i := insn.Insn{Op: op}
	if !slices.Contains([]int{insn.StoreCtx, insn.StoreStack}, op) {
		i.Dst = 6
	}
	if !slices.Contains(readDst, op) {
		i.Src = 7
	}
	if op == insn.StoreCtx {
		i.Off = 4
	}
	return i
}

// P19.1: Unset, of each Op that reads registers, of each of them that is unset, whatever the other one has.
func TestUnset(t *testing.T) {
	ctx := zeros(1)
	for _, op := range slices.Concat(readDst, readSrc, readBoth) {
		i := usual(op)
		ends(t, vm.Unset, 0, 0, 1, ctx, i)
		ends(t, vm.Unset, 0, 3, 1, ctx, imm(0, 1), imm(1, 1), imm(5, 1), i)
		for dst, src := range map[int]int{0: 0, 3: 3, 1: 7, 7: 2, 4: 5} {
			x := i
			if i.Dst != 0 {
				x.Dst = dst
			}
			if i.Src != 0 {
				x.Src = src
			}
			ends(t, vm.Unset, 0, 0, 1, ctx, x)
		}
	}
	for _, op := range append(readDst, readBoth...) {
		ends(t, vm.Unset, 0, 1, 1, ctx, imm(7, 4), usual(op))
		ends(t, vm.Unset, 0, 4, 1, ctx, append(refTo(7, 0, 5), usual(op))...)
	}
	for _, op := range append(readSrc, readBoth...) {
		ends(t, vm.Unset, 0, 1, 1, ctx, imm(6, 4), usual(op))
		ends(t, vm.Unset, 0, 4, 1, ctx, append(refTo(6, 0, 5), usual(op))...)
	}
}

// P19.1: Unset at Exit, of register 0 alone.
func TestUnsetAtExit(t *testing.T) {
	for h := 1; h <= 8; h++ {
		ends(t, vm.Unset, 0, 0, h, zeros(h), exit())
		l := []insn.Insn{}
		for k := 1; k <= 7; k++ {
			l = append(l, imm(k, k))
		}
		ends(t, vm.Unset, 0, 7, h, zeros(h), append(l, exit())...)
		ends(t, 0, 8, 9, h, zeros(h), append(l, imm(0, 8), exit())...)
	}
}

// takes is how many arguments each helper takes.
var takes = map[int]int{1: 2, 2: 1, 3: 4, 4: 2}

// P19.1: Unset of a helper's arguments, of each of them, whatever the others have; registers behind them aren't read.
func TestUnsetArguments(t *testing.T) {
	for h := 1; h <= 8; h++ {
		for helper, n := range takes {
			if helper > 2 && !hooks[h].told {
				continue
			}
			for skip := 1; skip <= n; skip++ {
				var l, refs []insn.Insn
				refs = refTo(7, 0, 5)
				for k := 1; k <= 5; k++ {
					if k != skip {
						l, refs = append(l, imm(k, 1)), append(refs, mov(k, 7))
					}
				}
				ends(t, vm.Unset, 0, 4, h, zeros(h), append(l, call(helper))...)
				ends(t, vm.Unset, 0, 8, h, zeros(h), append(refs, call(helper))...)
			}
			ends(t, vm.Unset, 0, 0, h, zeros(h), call(helper))
			l := append(help(helper, []int{0, 5, 1, 1}[:n]...), imm(0, 3), exit())
			ends(t, 0, 3, n+3, h, zeros(h), l...)
		}
	}
}

// P19.1: NoNumber, of each register that must be a number and is a reference, one to a key that was dropped, too.
func TestNoNumber(t *testing.T) {
	told := zeros(2)
	for _, op := range readDst {
		for _, n := range []int{1, 5, 63} {
			i := usual(op)
			i.Imm = n
			ends(t, vm.NoNumber, 0, 4, 2, told, append(refTo(6, 0, 5), i)...)
			ends(t, vm.NoNumber, 0, 7, 2, told, append(staleIn(6), i)...)
		}
	}
	for _, op := range []int{insn.StoreCtx, insn.LoadCtxAt, insn.StoreStack, insn.LoadStackAt} {
		ends(t, vm.NoNumber, 0, 4, 2, told, append(refTo(7, 0, 5), usual(op))...)
		ends(t, vm.NoNumber, 0, 7, 2, told, append(staleIn(7), usual(op))...)
	}
	for _, op := range readBoth {
		ends(t, vm.NoNumber, 0, 5, 2, told, append(refTo(7, 0, 5), imm(6, 1), usual(op))...)
		ends(t, vm.NoNumber, 0, 8, 2, told, append(staleIn(7), imm(6, 1), usual(op))...)
		ends(t, vm.NoNumber, 0, 8, 2, told, append(append(refTo(6, 1, 2), refTo(7, 0, 5)...), usual(op))...)
		if op != insn.StoreVal {
			ends(t, vm.NoNumber, 0, 5, 2, told, append(refTo(6, 0, 5), imm(7, 1), usual(op))...)
			ends(t, vm.NoNumber, 0, 8, 2, told, append(staleIn(6), imm(7, 1), usual(op))...)
		}
	}
	ends(t, vm.NoNumber, 0, 3, 2, told, append(help(1, 0, 5), exit())...)
	ends(t, vm.NoNumber, 0, 8, 2, told, append(staleIn(6), mov(0, 6), exit())...)
	ends(t, 0, 0, 4, 2, told, append(help(1, 0, 4), exit())...)
}

// P19.1: JeqImm and JneImm with another Imm than 0 must have a number, as must JltImm and JgeImm with 0.
func TestNoNumberBesideZero(t *testing.T) {
	for _, n := range []int{1, -1, math.MaxInt32, math.MinInt32, 5} {
		ends(t, vm.NoNumber, 0, 4, 3, zeros(3), append(refTo(6, 0, 5), jumpBy(insn.JeqImm, 6, n, 0), imm(0, 1), exit())...)
		ends(t, vm.NoNumber, 0, 4, 3, zeros(3), append(refTo(6, 0, 5), jumpBy(insn.JneImm, 6, n, 0), imm(0, 1), exit())...)
	}
	for _, op := range []int{insn.AddImm, insn.SubImm, insn.AndImm, insn.OrImm, insn.MulImm, insn.ShlImm, insn.ShrImm, insn.JltImm, insn.JgeImm} {
		ends(t, vm.NoNumber, 0, 4, 3, zeros(3), append(refTo(6, 0, 5), with(op, 6, 0), imm(0, 1), exit())...)
	}
	// Against a register that is 0 a reference isn't held.
	for _, op := range []int{insn.Jeq, insn.Jne, insn.Jlt, insn.Jge} {
		ends(t, vm.NoNumber, 0, 5, 3, zeros(3), append(refTo(6, 0, 5), imm(7, 0), two(op, 6, 7), exit())...)
		ends(t, vm.NoNumber, 0, 5, 3, zeros(3), append(refTo(6, 0, 5), imm(7, 0), two(op, 7, 6), exit())...)
		ends(t, vm.NoNumber, 0, 4, 3, zeros(3), append(refTo(6, 0, 5), two(op, 6, 6), exit())...)
	}
}

// P19.1: NoNumber of a helper's arguments, of each of them; behind them there may be references.
func TestNoNumberArguments(t *testing.T) {
	for _, h := range []int{2, 4, 6, 7} {
		for helper, n := range takes {
			for at := 1; at <= 5; at++ {
				l := refTo(7, 0, 5)
				for k := 1; k <= 5; k++ {
					if k == at {
						l = append(l, mov(k, 7))
					} else {
						l = append(l, imm(k, 1))
					}
				}
				why, steps := vm.NoNumber, 9
				if at > n {
					why, steps = 0, 12
				}
				ends(t, why, 0, steps, h, zeros(h), append(l, call(helper), imm(0, 0), exit())...)
			}
		}
	}
}

// P19.1: Field, of each instruction that names one, by Off and by a register, in each hook.
func TestField(t *testing.T) {
	for h := 1; h <= 8; h++ {
		fields := hooks[h].inputs + hooks[h].outputs
		for _, k := range append([]int{fields, fields + 1, fields + 8}, farOffs...) {
			ends(t, vm.Field, 0, 0, h, zeros(h), loadCtx(0, k), exit())
			ends(t, vm.Field, 0, 1, h, zeros(h), imm(0, 1), storeCtx(k, 0), exit())
		}
		for _, n := range append([]int{fields, fields + 1, -fields, 256 + fields - 1, 1<<32 + fields - 1}, far...) {
			ctx := zeros(h)
			ctx[0] = n
			ends(t, vm.Field, 0, 1, h, ctx, loadCtx(3, 0), two(insn.LoadCtxAt, 0, 3), exit())
		}
	}
}

// P19.1: Input, of each input of each hook; what it is stays.
func TestInput(t *testing.T) {
	for h := 1; h <= 8; h++ {
		ctx := zeros(h)
		for k := range ctx {
			ends(t, vm.Input, 0, 1, h, ctx, imm(0, 1), storeCtx(k, 0), exit())
			ends(t, vm.Input, 0, 2, h, ctx, loadCtx(0, k), mov(7, 0), storeCtx(k, 7), exit())
		}
		for k := range hooks[h].outputs {
			ends(t, 0, 1, 3, h, ctx, imm(0, 1), storeCtx(len(ctx)+k, 0), exit())
		}
	}
}

// P19.1: Word, of each instruction that names one, by Off and by a register.
func TestWord(t *testing.T) {
	for _, k := range append([]int{8, 9, 16}, farOffs...) {
		ends(t, vm.Word, 0, 0, 8, zeros(8), loadStack(0, k), exit())
		ends(t, vm.Word, 0, 1, 8, zeros(8), imm(0, 1), storeStack(k, 0), exit())
	}
	for _, n := range append([]int{8, 9, -8, 256, 1<<32 + 7}, far...) {
		ctx := []int{n, 0, 0, 0, 0}
		ends(t, vm.Word, 0, 1, 8, ctx, loadCtx(3, 0), two(insn.LoadStackAt, 0, 3), exit())
		ends(t, vm.Word, 0, 2, 8, ctx, loadCtx(3, 0), imm(0, 1), two(insn.StoreStackAt, 3, 0), exit())
		ends(t, vm.Word, 0, 1, 8, ctx, loadCtx(3, 0), two(insn.StoreStackAt, 3, 3), exit())
	}
}

// P19.1: Blank, of each word that is unset, though all others are set; a word that is 0 is set.
func TestBlank(t *testing.T) {
	for blank := range 8 {
		ends(t, vm.Blank, 0, 0, 8, zeros(8), loadStack(0, blank), exit())
		ends(t, vm.Blank, 0, 1, 8, zeros(8), imm(3, blank), two(insn.LoadStackAt, 0, 3), exit())
		l := []insn.Insn{imm(0, 0)}
		for k := range 8 {
			if k != blank {
				l = append(l, storeStack(k, 0))
			}
		}
		for k := range 8 {
			why, done := 0, 2
			if k == blank {
				why, done = vm.Blank, 0
			}
			ends(t, why, 0, 8+done, 8, zeros(8), append(slices.Clone(l), loadStack(0, k), exit())...)
			ends(t, why, 0, 9+done, 8, zeros(8), append(slices.Clone(l), imm(3, k), two(insn.LoadStackAt, 0, 3), exit())...)
		}
	}
}

// P19.1: NoRef, of a number in the place of a reference: any, also one that a helper answered, and a key that is there.
func TestNoRef(t *testing.T) {
	for _, n := range append([]int{5, 0, 1}, farInts...) {
		ctx := []int{n, 0, 0, 0, 0}
		for k := range 4 {
			ends(t, vm.NoRef, 0, 1, 8, ctx, loadCtx(3, 0), loadVal(0, 3, k), exit())
			ends(t, vm.NoRef, 0, 2, 8, ctx, loadCtx(3, 0), imm(0, 1), storeVal(3, k, 0), exit())
			ends(t, vm.NoRef, 0, 1, 8, ctx, loadCtx(3, 0), storeVal(3, k, 3), exit())
		}
	}
	ends(t, vm.NoRef, 0, 3, 8, zeros(8), append(help(1, 0, 4), loadVal(0, 0, 0), exit())...)
	ends(t, vm.NoRef, 0, 2, 8, zeros(8), append(help(2, 0), loadVal(0, 0, 0), exit())...)
	ends(t, vm.NoRef, 0, 3, 2, zeros(2), append(help(4, 0, 5), loadVal(0, 0, 0), exit())...)
	ends(t, vm.NoRef, 0, 5, 2, zeros(2), append(help(3, 0, 5, 1, 2), loadVal(0, 0, 0), exit())...)
	// What was a reference isn't one any more once a number was loaded.
	ends(t, vm.NoRef, 0, 5, 8, zeros(8), append(refTo(6, 0, 5), imm(6, 1), loadVal(0, 6, 0), exit())...)
	ends(t, vm.NoRef, 0, 5, 8, zeros(8), append(refTo(6, 0, 5), loadVal(6, 6, 0), loadVal(0, 6, 0), exit())...)
}

// P19.1: Stale, of a key that was dropped, or that went for another one: by each reference to it, of each word; not of others.
func TestStale(t *testing.T) {
	h, ctx := 4, zeros(4)
	for k := range 4 {
		ends(t, vm.Stale, 0, 7, h, ctx, append(staleIn(7), loadVal(0, 7, k), exit())...)
		ends(t, vm.Stale, 0, 8, h, ctx, append(staleIn(7), imm(0, 1), storeVal(7, k, 0), exit())...)
		both := append(refTo(6, 0, 5), mov(7, 6))
		both = append(both, help(4, 0, 5)...)
		ends(t, vm.Stale, 0, 8, h, ctx, append(slices.Clone(both), loadVal(0, 6, k), exit())...)
		ends(t, vm.Stale, 0, 8, h, ctx, append(slices.Clone(both), loadVal(0, 7, k), exit())...)
		ends(t, vm.Stale, 0, 8, h, ctx, append(slices.Clone(both), storeVal(7, k, 0), exit())...)
	}
	// Find used 1, so that 2 is the eldest, and goes.
	gone := append(append(refTo(6, 1, 2), refTo(7, 1, 1)...), help(3, 1, 8, 0, 0)...)
	ends(t, 0, 11, 15, h, ctx, append(slices.Clone(gone), loadVal(0, 7, 0), exit())...)
	gone = append(gone, help(3, 1, 4, 0, 0)...)
	ends(t, vm.Stale, 0, 18, h, ctx, append(slices.Clone(gone), loadVal(0, 6, 0), exit())...)
	ends(t, 0, 11, 20, h, ctx, append(slices.Clone(gone), loadVal(0, 7, 0), exit())...)
	// Another key of the map, and the same key of another map, are dropped.
	other := append(refTo(7, 1, 2), help(4, 1, 1)...)
	ends(t, 0, 13, 9, h, ctx, append(other, loadVal(0, 7, 1), exit())...)
	with := []*plainMap{{kind: 1, room: 1, list: []maps.Entry{{Key: 2, Value: maps.Value{1}}}}, {kind: 1, room: 1, list: []maps.Entry{{Key: 2, Value: maps.Value{7}}}}}
	o, _ := runWith(t, with, h, ctx, append(append(refTo(7, 1, 2), help(4, 0, 2)...), loadVal(0, 7, 0), exit())...)
	if o.Verdict != 7 {
		t.Errorf("%+v", o)
	}
}

// P19.1: a reference is one to a key: if the key was dropped and is there again, it has the new value.
func TestDroppedAndThereAgain(t *testing.T) {
	l := append(staleIn(7), help(3, 0, 5, 71, 72)...)
	for k, n := range []int{71, 72, 0, 0} {
		ends(t, 0, n, 14, 4, zeros(4), append(slices.Clone(l), loadVal(0, 7, k), exit())...)
	}
	o, set := runOn(t, 4, zeros(4), append(l, imm(0, -5), storeVal(7, 3, 0), exit())...)
	if v, _ := set.At(0).Get(5); o.How != 1 || v != (maps.Value{71, 72, 0, -5}) {
		t.Errorf("%+v, %v", o, v)
	}
}

// P19.1: Slot, of each number of a word that a value hasn't.
func TestSlot(t *testing.T) {
	for _, k := range append([]int{4, 5, 8}, farOffs...) {
		for h := 1; h <= 8; h++ {
			ends(t, vm.Slot, 0, 4, h, zeros(h), append(refTo(7, 0, 5), loadVal(0, 7, k), exit())...)
			ends(t, vm.Slot, 0, 5, h, zeros(h), append(refTo(7, 0, 5), imm(0, 1), storeVal(7, k, 0), exit())...)
		}
	}
}

// P19.1: Helper, of each number that is none, and of Put and Drop in hooks that are asked; it reads nothing.
func TestHelper(t *testing.T) {
	for h := 1; h <= 8; h++ {
		numbers := []int{0, 5, 6, 8, -1, -4, 256 + 1, 65536 + 1, math.MaxInt32, math.MinInt32, math.MinInt32 + 1}
		if !hooks[h].told {
			numbers = append(numbers, 3, 4)
		}
		for _, n := range numbers {
			ends(t, vm.Helper, 0, 0, h, zeros(h), call(n), exit())
			ends(t, vm.Helper, 0, 4, h, zeros(h), append(help(n, 0, 5, 1, 1), exit())...)
			ends(t, vm.Helper, 0, 1, h, zeros(h), append(help(n, -1), exit())...)
			l := refTo(7, 0, 5)
			for k := 1; k <= 5; k++ {
				l = append(l, mov(k, 7))
			}
			ends(t, vm.Helper, 0, 9, h, zeros(h), append(l, call(n), exit())...)
		}
	}
}

// P19.1: NoMap, of each helper and each number that no map has.
func TestNoMap(t *testing.T) {
	for h := 1; h <= 8; h++ {
		for helper, n := range takes {
			if helper > 2 && !hooks[h].told {
				continue
			}
			for _, of := range append([]int{3, 4, 8}, far...) {
				ctx := zeros(h)
				ctx[0] = of
				l := []insn.Insn{loadCtx(1, 0), imm(2, 5), imm(3, 1), imm(4, 1)}[:n]
				ends(t, vm.NoMap, 0, n, h, ctx, append(l, call(helper), exit())...)
			}
		}
	}
}

// times is a program that does so many steps ahead of what follows it: a number, and a loop that counts.
func times(steps int) []insn.Insn {
	l := slices.Repeat([]insn.Insn{imm(7, 0)}, 1+(steps+1)%2)
	return append(l, with(insn.AddImm, 7, 1), jumpBy(insn.JltImm, 7, (steps-len(l))/2, -2))
}

// P19.1: Fuel, behind 64 steps: 63 and an Exit are done, and any instruction that comes behind 64 isn't.
func TestFuel(t *testing.T) {
	ctx := zeros(4)
	for steps := 3; steps <= 62; steps++ {
		ends(t, 0, 9, steps+2, 4, ctx, append(times(steps), imm(0, 9), exit())...)
	}
	ends(t, 0, 9, 64, 4, ctx, append(programs(one(imm(0, 9)), times(62)), exit())...)
	ends(t, vm.Fuel, 0, 64, 4, ctx, append(programs(one(imm(0, 9)), times(63)), exit())...)
	for _, i := range []insn.Insn{exit(), mov(1, 2), loadCtx(0, -1), imm(0, 1), jump(0), jump(-1), call(0), call(2), loadVal(1, 7, 9), storeCtx(0, 7), loadStack(0, 0), loadStack(0, 9)} {
		ends(t, vm.Fuel, 0, 64, 4, ctx, append(times(64), i, exit())...)
	}
	// There is none behind them, either.
	ends(t, vm.Fuel, 0, 64, 4, ctx, times(64)...)
	ends(t, vm.Outside, 0, 63, 4, ctx, times(63)...)
	ends(t, vm.Fuel, 0, 64, 4, ctx, slices.Repeat([]insn.Insn{imm(0, 1)}, 64)...)
	ends(t, vm.Outside, 0, 63, 4, ctx, slices.Repeat([]insn.Insn{imm(0, 1)}, 63)...)
}

// P19.1: what jumps back for ever ends with Fuel, whatever it does on its way.
func TestForEver(t *testing.T) {
	for h := 1; h <= 8; h++ {
		ctx := zeros(h)
		ends(t, vm.Fuel, 0, 64, h, ctx, jump(-1))
		ends(t, vm.Fuel, 0, 64, h, ctx, imm(0, 1), jump(-2))
		ends(t, vm.Fuel, 0, 64, h, ctx, imm(0, 1), jumpBy(insn.JeqImm, 0, 1, -1), exit())
		ends(t, vm.Fuel, 0, 64, h, ctx, imm(0, 1), jumpBy(insn.JneImm, 0, 0, -1), exit())
		ends(t, vm.Fuel, 0, 64, h, ctx, imm(0, 1), jumpBy(insn.JltImm, 0, 2, -1), exit())
		ends(t, vm.Fuel, 0, 64, h, ctx, imm(0, 1), jumpBy(insn.JgeImm, 0, 1, -1), exit())
		ends(t, vm.Fuel, 0, 64, h, ctx, jump(1), exit(), jump(0), jump(-2))
		ends(t, vm.Fuel, 0, 64, h, ctx, append(slices.Repeat([]insn.Insn{jump(0)}, 63), jump(-64))...)
	}
	// Each time around the loop a key more is put: each but the last three goes.
	l := []insn.Insn{imm(7, 0), imm(1, 1), mov(2, 7), imm(3, 1), imm(4, 1), call(3), with(insn.AddImm, 7, 1), jump(-7)}
	o, set := runOn(t, 2, zeros(2), l...)
	want := []maps.Entry{{Key: 6, Value: maps.Value{1, 1}}, {Key: 7, Value: maps.Value{1, 1}}, {Key: 8, Value: maps.Value{1, 1}}}
	if o.Why != vm.Fuel || o.Steps != 64 || !slices.Equal(set.At(1).All(), want) {
		t.Errorf("%+v, %v", o, set.At(1).All())
	}
}

// P19.1: Outside, behind the last instruction, and where each jump leads that leads nowhere.
func TestOutside(t *testing.T) {
	ctx := zeros(3)
	ends(t, vm.Outside, 0, 1, 3, ctx, imm(0, 1))
	ends(t, vm.Outside, 0, 1, 3, ctx, jump(0))
	for _, off := range []int{0, 1, 2, 100, 32767, -4, -5, -100, -32768} {
		for _, i := range []insn.Insn{
			jump(off), jumpIf(insn.Jeq, 0, 0, off), jumpIf(insn.Jge, 0, 0, off), jumpIf(insn.Jne, 0, 1, off), jumpIf(insn.Jlt, 0, 1, off),
			jumpBy(insn.JeqImm, 0, 1, off), jumpBy(insn.JneImm, 0, 0, off), jumpBy(insn.JltImm, 0, 2, off), jumpBy(insn.JgeImm, 0, 1, off),
		} {
			ends(t, vm.Outside, 0, 3, 3, ctx, imm(0, 1), imm(1, 2), i)
		}
	}
}
