package vm_test

import (
	"math"
	"slices"
	"testing"

	"narthex/api"
	"narthex/insn"
	"narthex/maps"
	"narthex/vm"
)

// P19.1: the document's examples.
func TestExamples(t *testing.T) {
	o, e := vm.Run(3, nil, []int{1}, insn.Insn{Op: insn.MovImm, Imm: 7}, insn.Insn{Op: insn.Exit})
	if e != api.OK || !same(o, vm.Outcome{How: vm.Done, Verdict: 7, Steps: 2, Out: []int{0, 0, 0, 0, 0}}) {
		t.Errorf("%+v, %d", o, e)
	}
	o, e = vm.Run(8, nil, []int{1, 2, 3, 4, 5}, insn.Insn{Op: insn.Exit})
	if e != api.OK || !same(o, vm.Outcome{How: vm.Fault, Why: vm.Unset}) {
		t.Errorf("%+v, %d", o, e)
	}
}

// P19.1: the constants have the document's numbers.
func TestNumbers(t *testing.T) {
	if vm.Done != 1 || vm.Fault != 2 {
		t.Error(vm.Done, vm.Fault)
	}
	for i, n := range []int{vm.Fuel, vm.Outside, vm.Unset, vm.NoNumber, vm.Field, vm.Input, vm.Word, vm.Blank, vm.NoRef, vm.Stale, vm.Slot, vm.Helper, vm.NoMap} {
		if n != i+1 {
			t.Errorf("fault %d has number %d", i+1, n)
		}
	}
}

// refused asks for EINVAL, the zero Outcome, and maps that are as they were.
func refused(t *testing.T, h int, ctx []int, l ...insn.Insn) {
	t.Helper()
	set := made(t, start())
	o, e := vm.Run(h, set, ctx, l...)
	if e != api.EINVAL || o.Out != nil || !same(o, vm.Outcome{}) {
		t.Errorf("hook %d, %v, %v: %+v, %d", h, ctx, l, o, e)
	}
	if !sameMaps(set, start()) {
		t.Errorf("hook %d, %v, %v: the maps have %v", h, ctx, l, told(set))
	}
}

// changing is a program that changes the maps in a hook that is told, and uses one in any: Find, Put, Drop.
func changing() []insn.Insn {
	return append(programs(help(1, 1, 1), help(3, 0, 6, 1, 2), help(4, 0, 5), one(imm(0, 1))), exit())
}

// P19.1: EINVAL of what is no hook, with a context of any length.
func TestNoHook(t *testing.T) {
	for _, h := range append([]int{9, 10, 11, 15, 16, 17, 256 + 4, 1<<32 + 4, -4, -8}, farInts...) {
		if h >= 1 && h <= 8 {
			continue
		}
		for n := range 12 {
			refused(t, h, make([]int, n), changing()...)
			refused(t, h, make([]int, n), imm(0, 7), exit())
		}
	}
	refused(t, 0, nil, changing()...)
	refused(t, 9, nil, changing()...)
}

// P19.1: EINVAL of a context that hasn't just the hook's inputs: the outputs aren't handed in.
func TestContextLength(t *testing.T) {
	for h := 1; h <= 8; h++ {
		for n := range 20 {
			if n == hooks[h].inputs {
				o, _ := runOn(t, h, make([]int, n), changing()...)
				if o.How != 1 && hooks[h].told || o.Why != 12 && !hooks[h].told {
					t.Errorf("hook %d: %+v", h, o)
				}
				continue
			}
			refused(t, h, make([]int, n), changing()...)
			refused(t, h, make([]int, n), imm(0, 7), exit())
		}
		refused(t, h, nil, changing()...)
	}
}

// P19.1: EINVAL of instructions that aren't right: none, too many, and each kind of one that is wrong, though it comes behind the Exit.
func TestWrongInstructions(t *testing.T) {
	for h := 1; h <= 8; h++ {
		refused(t, h, zeros(h))
		refused(t, h, zeros(h), slices.Repeat([]insn.Insn{exit()}, 65)...)
		refused(t, h, zeros(h), append(changing(), slices.Repeat([]insn.Insn{exit()}, 65-len(changing()))...)...)
		for _, i := range []insn.Insn{
			{}, {Op: 3}, {Op: 15}, {Op: 28}, {Op: 41}, {Op: 47}, {Op: 57}, {Op: 65}, {Op: 81}, {Op: -1}, {Op: 256 + 80}, {Op: 1<<32 + 80},
			{Op: insn.Mov, Dst: 8}, {Op: insn.Mov, Dst: -1}, {Op: insn.Mov, Src: 8}, {Op: insn.Mov, Src: -1}, {Op: insn.Mov, Imm: 1}, {Op: insn.Mov, Off: 1},
			{Op: insn.MovImm, Src: 1}, {Op: insn.MovImm, Imm: 1 << 31}, {Op: insn.MovImm, Imm: -1<<31 - 1},
			{Op: insn.ShlImm, Imm: 64}, {Op: insn.ShlImm, Imm: -1}, {Op: insn.ShrImm, Imm: 64}, {Op: insn.ShrImm, Imm: -1},
			{Op: insn.Jump, Off: 32768}, {Op: insn.Jump, Off: -32769}, {Op: insn.Jump, Dst: 1}, {Op: insn.Jeq, Imm: 1},
			{Op: insn.LoadCtx, Src: 1}, {Op: insn.StoreCtx, Dst: 1}, {Op: insn.LoadVal, Imm: 1}, {Op: insn.Call, Imm: 1, Dst: 1}, {Op: insn.Call, Imm: 1 << 31}, {Op: insn.Exit, Imm: 1}, {Op: insn.Exit, Src: 1},
		} {
			refused(t, h, zeros(h), i)
			refused(t, h, zeros(h), append(changing(), i)...)
			refused(t, h, zeros(h), append([]insn.Insn{i}, changing()...)...)
		}
	}
}

// P19.1: of several things that are wrong there is still EINVAL.
func TestAllWrong(t *testing.T) {
	refused(t, 0, []int{1})
	refused(t, 9, zeros(1), insn.Insn{})
	refused(t, 1, nil)
	refused(t, math.MinInt, nil, insn.Insn{Op: 99})
}

// P19.1: 64 instructions are run, if they are right, and one is.
func TestMostInstructions(t *testing.T) {
	l := append(slices.Repeat([]insn.Insn{imm(0, 7)}, 63), exit())
	ends(t, 0, 7, 64, 1, zeros(1), l...)
	ends(t, 2, 0, 1, 1, zeros(1), imm(0, 7))
}

// P19.1: the context's fields are read as they were handed in, the outputs are 0 at first, and Out is of the hook's length.
func TestContext(t *testing.T) {
	for h := 1; h <= 8; h++ {
		ctx := zeros(h)
		for k := range ctx {
			ctx[k] = 100 + k
		}
		for k := range ctx {
			for _, n := range append([]int{100 + k}, farInts...) {
				ctx[k] = n
				ends(t, 0, n, 2, h, ctx, loadCtx(0, k), exit())
				ends(t, 0, n, 3, h, ctx, imm(6, k), two(insn.LoadCtxAt, 0, 6), exit())
			}
		}
		for k := range hooks[h].outputs {
			ends(t, 0, 0, 2, h, ctx, loadCtx(0, hooks[h].inputs+k), exit())
			ends(t, 0, 0, 3, h, ctx, imm(0, hooks[h].inputs+k), two(insn.LoadCtxAt, 0, 0), exit())
		}
	}
}

// P19.1: Out holds what was written, each number in its place, and they are read again; behind a fault, too.
func TestOut(t *testing.T) {
	for _, h := range []int{1, 3, 5} {
		x := hooks[h]
		for k := range x.outputs {
			for _, n := range farInts {
				ctx := zeros(h)
				ctx[0] = n
				at := x.inputs + k
				want := make([]int, x.outputs)
				want[k] = n
				l := []insn.Insn{loadCtx(3, 0), storeCtx(at, 3), loadCtx(0, at)}
				o, _ := runOn(t, h, ctx, append(l, exit())...)
				if !same(o, vm.Outcome{How: 1, Verdict: n, Steps: 4, Out: want}) {
					t.Errorf("hook %d, output %d: %+v", h, k, o)
				}
				o, _ = runOn(t, h, ctx, append(l, mov(0, 7))...)
				if !same(o, vm.Outcome{How: 2, Why: vm.Unset, Steps: 3, Out: want}) {
					t.Errorf("hook %d, output %d: %+v", h, k, o)
				}
				o, _ = runOn(t, h, ctx, append(l, jump(-2))...)
				if !same(o, vm.Outcome{How: 2, Why: vm.Fuel, Steps: 64, Out: want}) {
					t.Errorf("hook %d, output %d: %+v", h, k, o)
				}
			}
		}
	}
}

// P19.1: all outputs are written, one more than once: Out has the last of each.
func TestAllOut(t *testing.T) {
	for _, h := range []int{1, 3, 5} {
		x := hooks[h]
		l := []insn.Insn{imm(2, -9)}
		want := make([]int, x.outputs)
		for k := range x.outputs {
			l = append(l, storeCtx(x.inputs+k, 2), with(insn.AddImm, 2, k+1), storeCtx(x.inputs+k, 2))
			want[k] = -9 + (k+1)*(k+2)/2
		}
		o, _ := runOn(t, h, zeros(h), append(l, loadCtx(0, x.inputs), exit())...)
		if !same(o, vm.Outcome{How: 1, Verdict: -8, Steps: len(l) + 2, Out: want}) {
			t.Errorf("hook %d: %+v", h, o)
		}
	}
}

// P19.1: what is answered shares nothing with what was handed in, nor with what another run answered; a run begins with nothing left of the one ahead of it.
func TestNothingShared(t *testing.T) {
	ctx := append(make([]int, 0, 20), 1, 2, 3)
	l := []insn.Insn{loadCtx(0, 4), with(insn.AddImm, 0, 5), storeCtx(4, 0), loadCtx(1, 0), storeCtx(3, 1), exit()}
	first, e := vm.Run(5, nil, ctx, l...)
	want := vm.Outcome{How: 1, Verdict: 5, Steps: 6, Out: []int{1, 5, 0}}
	if e != api.OK || !same(first, want) || !slices.Equal(ctx[:20], append([]int{1, 2, 3}, make([]int, 17)...)) {
		t.Fatalf("%+v, %d, %v", first, e, ctx[:20])
	}
	for k := range ctx[:20] {
		ctx[:20][k] = 9
	}
	if !same(first, want) {
		t.Errorf("%+v", first)
	}
	ctx[0] = 1
	second, _ := vm.Run(5, nil, ctx, l...)
	clear(second.Out)
	if !same(first, want) {
		t.Errorf("%+v", first)
	}
	if third, _ := vm.Run(5, nil, ctx, l...); !same(third, want) {
		t.Errorf("%+v", third)
	}
}

// P19.1: a set may have no map, or nil in a map's place, which is none.
func TestOddSets(t *testing.T) {
	find := append(help(1, 0, 5), exit())
	for _, set := range []maps.Set{nil, {}, {nil}, {nil, nil}} {
		if o, e := vm.Run(4, set, zeros(4), find...); e != api.OK || !same(o, vm.Outcome{How: 2, Why: vm.NoMap, Steps: 2}) {
			t.Errorf("%v: %+v, %d", set, o, e)
		}
	}
	m, _ := maps.New(maps.Hash, 1)
	for _, x := range []struct {
		set          maps.Set
		of, how, why int
	}{{maps.Set{nil, m}, 1, 1, 0}, {maps.Set{nil, m}, 0, 2, vm.NoMap}, {maps.Set{m, nil}, 1, 2, vm.NoMap}} {
		o, e := vm.Run(4, x.set, zeros(4), append(help(3, x.of, 5, 6, 7), exit())...)
		if e != api.OK || o.How != x.how || o.Why != x.why || o.Verdict != 0 {
			t.Errorf("%v: %+v, %d", x.set, o, e)
		}
	}
	if got := m.All(); !slices.Equal(got, []maps.Entry{{Key: 5, Value: maps.Value{6, 7}}}) {
		t.Error(got)
	}
}
