package vm_test

import (
	"slices"
	"testing"

	"narthex/api"
	"narthex/insn"
	"narthex/maps"
	"narthex/vm"
)

// start is the maps that most runs begin with: a Hash with a room left, a full Lru and a full Hash.
func start() []*plainMap {
	return []*plainMap{
		{kind: 1, room: 2, list: []maps.Entry{{Key: 5, Value: maps.Value{40, 2, -3, 7}}}},
		{kind: 2, room: 3, list: []maps.Entry{{Key: 1, Value: maps.Value{11}}, {Key: 2, Value: maps.Value{12, 13, 14, 15}}, {Key: 3}}},
		{kind: 1, room: 1, list: []maps.Entry{{Key: 9, Value: maps.Value{-1, -1, -1, -1}}}},
	}
}

// made is the set of maps that plain ones tell.
func made(t *testing.T, l []*plainMap) maps.Set {
	t.Helper()
	specs := []maps.Spec{}
	for _, p := range l {
		specs = append(specs, maps.Spec{Kind: p.kind, Room: p.room})
	}
	set, e := maps.Make(specs...)
	for k, p := range l {
		for _, x := range p.list {
			e = max(e, set.At(k).Put(x.Key, x.Value))
		}
	}
	if e != api.OK {
		t.Fatal(e)
	}
	return set
}

// sameMaps tells whether the maps of a set have what plain ones have, in their order.
func sameMaps(set maps.Set, l []*plainMap) bool {
	for k, p := range l {
		if !slices.Equal(set.At(k).All(), p.list) {
			return false
		}
	}
	return len(set) == len(l)
}

// told is what all maps of a set have.
func told(set maps.Set) (l [][]maps.Entry) {
	for _, m := range set {
		l = append(l, m.All())
	}
	return l
}

// same holds outcomes against each other: an empty list and no list are one.
func same(a, b vm.Outcome) bool {
	return a.How == b.How && a.Why == b.Why && a.Verdict == b.Verdict && a.Steps == b.Steps && slices.Equal(a.Out, b.Out)
}

// runOn runs right instructions with maps like start's, and holds how that ends, what the maps are then, and what was handed in, against the model.
func runOn(t *testing.T, h int, ctx []int, l ...insn.Insn) (vm.Outcome, maps.Set) {
	t.Helper()
	return runWith(t, start(), h, ctx, l...)
}

func runWith(t *testing.T, with []*plainMap, h int, ctx []int, l ...insn.Insn) (vm.Outcome, maps.Set) {
	t.Helper()
	set := made(t, with)
	// What lies behind a list isn't written into, either.
	ctx = append(slices.Clone(ctx), -77, -78, -79)
	l = append(slices.Clone(l), insn.Insn{Op: -1}, insn.Insn{Op: -2})
	wasCtx, wasL, wasSet := slices.Clone(ctx), slices.Clone(l), slices.Clone(set)
	got, e := vm.Run(h, set, ctx[:len(ctx)-3], l[:len(l)-2]...)
	want := wanted(h, with, ctx[:len(ctx)-3], l[:len(l)-2]...)
	if e != api.OK || !same(got, want) {
		t.Fatalf("hook %d, %v, %v: %+v, %d, not %+v", h, ctx, l, got, e, want)
	}
	if !sameMaps(set, with) {
		t.Fatalf("hook %d, %v, %v: the maps have %v", h, ctx, l, told(set))
	}
	if !slices.Equal(ctx, wasCtx) || !slices.Equal(l, wasL) || !slices.Equal(set, wasSet) {
		t.Fatalf("hook %d: of %v, %v, %v came %v, %v, %v", h, wasCtx, wasL, wasSet, ctx, l, set)
	}
	return got, set
}

// ends asks how a run ends, as it is written out: with which fault, or, if that is 0, with which verdict, and behind how many steps.
func ends(t *testing.T, why, verdict, steps, h int, ctx []int, l ...insn.Insn) {
	t.Helper()
	how := 1
	if why != 0 {
		how = 2
	}
	o, _ := runOn(t, h, ctx, l...)
	if o.How != how || o.Why != why || o.Verdict != verdict || o.Steps != steps || len(o.Out) != hooks[h].outputs {
		t.Errorf("hook %d, %v, %v: %+v, not why %d, verdict %d, steps %d", h, ctx, l, o, why, verdict, steps)
	}
}

// zeros is a context of a hook.
func zeros(h int) []int { return make([]int, hooks[h].inputs) }

// programs are instructions one behind the other.
func programs(l ...[]insn.Insn) []insn.Insn { return slices.Concat(l...) }

func one(i insn.Insn) []insn.Insn { return []insn.Insn{i} }

// Instructions, the shorter to write.
func mov(dst, src int) insn.Insn         { return insn.Insn{Op: insn.Mov, Dst: dst, Src: src} }
func imm(dst, n int) insn.Insn           { return insn.Insn{Op: insn.MovImm, Dst: dst, Imm: n} }
func two(op, dst, src int) insn.Insn     { return insn.Insn{Op: op, Dst: dst, Src: src} }
func with(op, dst, n int) insn.Insn      { return insn.Insn{Op: op, Dst: dst, Imm: n} }
func jump(off int) insn.Insn             { return insn.Insn{Op: insn.Jump, Off: off} }
func jumpIf(op, d, s, off int) insn.Insn { return insn.Insn{Op: op, Dst: d, Src: s, Off: off} }
func jumpBy(op, d, n, off int) insn.Insn { return insn.Insn{Op: op, Dst: d, Imm: n, Off: off} }
func loadCtx(dst, k int) insn.Insn       { return insn.Insn{Op: insn.LoadCtx, Dst: dst, Off: k} }
func storeCtx(k, src int) insn.Insn      { return insn.Insn{Op: insn.StoreCtx, Src: src, Off: k} }
func loadStack(dst, k int) insn.Insn     { return insn.Insn{Op: insn.LoadStack, Dst: dst, Off: k} }
func storeStack(k, src int) insn.Insn    { return insn.Insn{Op: insn.StoreStack, Src: src, Off: k} }
func loadVal(dst, src, k int) insn.Insn {
	return insn.Insn{Op: insn.LoadVal, Dst: dst, Src: src, Off: k}
}
func storeVal(dst, k, src int) insn.Insn {
	return insn.Insn{Op: insn.StoreVal, Dst: dst, Src: src, Off: k}
}
func call(helper int) insn.Insn { return insn.Insn{Op: insn.Call, Imm: helper} }
func exit() insn.Insn           { return insn.Insn{Op: insn.Exit} }

// help calls a helper with arguments: so many steps and one.
func help(helper int, args ...int) []insn.Insn {
	var l []insn.Insn
	for k, n := range args {
		l = append(l, imm(k+1, n))
	}
	return append(l, call(helper))
}

// refTo lets a register have a reference: four steps.
func refTo(register, of, key int) []insn.Insn {
	return append(help(1, of, key), mov(register, 0))
}

// staleIn lets a register have a reference to a key that was dropped: seven steps, in a hook that is told.
func staleIn(register int) []insn.Insn { return append(refTo(register, 0, 5), help(4, 0, 5)...) }
