package vm_test

import (
	"math"
	"slices"
	"testing"

	"narthex/insn"
	"narthex/maps"
	"narthex/vm"
)

// P19.1: each stack word keeps what was stored there last, by Off or by a register, and is loaded by either; the others keep theirs.
func TestStack(t *testing.T) {
	h, ctx := 8, zeros(8)
	for a := range 8 {
		for b := range 8 {
			first := 7
			if a == b {
				first = 8
			}
			byOff := []insn.Insn{imm(3, 7), imm(4, 8), storeStack(a, 3), storeStack(b, 4)}
			byRegister := []insn.Insn{imm(3, 7), imm(4, 8), imm(5, a), imm(6, b), two(insn.StoreStackAt, 5, 3), two(insn.StoreStackAt, 6, 4)}
			for _, l := range [][]insn.Insn{byOff, byRegister} {
				for k, want := range map[int]int{a: first, b: 8} {
					ends(t, 0, want, len(l)+2, h, ctx, append(slices.Clone(l), loadStack(0, k), exit())...)
					ends(t, 0, want, len(l)+3, h, ctx, append(slices.Clone(l), imm(7, k), two(insn.LoadStackAt, 0, 7), exit())...)
					ends(t, 0, want, len(l)+3, h, ctx, append(slices.Clone(l), imm(0, k), two(insn.LoadStackAt, 0, 0), exit())...)
				}
			}
		}
		// A word that is stored by the number that it becomes.
		ends(t, 0, a, 4, h, ctx, imm(3, a), two(insn.StoreStackAt, 3, 3), loadStack(0, a), exit())
	}
}

// P19.1: a stack word has any int; a load leaves it, and a store leaves the register.
func TestStackNumbers(t *testing.T) {
	for _, n := range farInts {
		l := []insn.Insn{loadCtx(3, 0), storeStack(5, 3), imm(4, 5), two(insn.LoadStackAt, 6, 4), loadStack(7, 5), two(insn.StoreStackAt, 4, 6)}
		for _, i := range []insn.Insn{mov(0, 3), mov(0, 6), mov(0, 7), loadStack(0, 5)} {
			ends(t, 0, n, 8, 8, []int{n, 0, 0, 0, 0}, append(slices.Clone(l), i, exit())...)
		}
		ends(t, 0, 5, 8, 8, []int{n, 0, 0, 0, 0}, append(slices.Clone(l), mov(0, 4), exit())...)
	}
}

// P19.1: what is loaded takes a reference's place.
func TestLoadsOverReference(t *testing.T) {
	ctx := []int{77, 0, 0}
	ahead := append(refTo(6, 0, 5), loadCtx(3, 0), storeStack(1, 3), imm(4, 1), imm(5, 0))
	for _, i := range []insn.Insn{loadCtx(6, 0), two(insn.LoadCtxAt, 6, 5), loadStack(6, 1), two(insn.LoadStackAt, 6, 4), imm(6, 77), mov(6, 3)} {
		ends(t, 0, 77, 11, 5, ctx, append(slices.Clone(ahead), i, mov(0, 6), exit())...)
	}
	ends(t, 0, -3, 11, 5, ctx, append(slices.Clone(ahead), loadVal(6, 6, 2), mov(0, 6), exit())...)
}

// P19.1: LoadVal tells each word of each value, and changes nothing: in an Lru it is no use.
func TestLoadVal(t *testing.T) {
	for of, p := range start() {
		for _, e := range p.list {
			for k, want := range e.Value {
				ends(t, 0, want, 6, 3, zeros(3), append(refTo(6, of, e.Key), loadVal(0, 6, k), exit())...)
			}
		}
	}
	l := append(refTo(6, 1, 1), refTo(7, 1, 2)...)
	o, set := runOn(t, 3, zeros(3), append(l, loadVal(0, 6, 0), loadVal(1, 6, 3), exit())...)
	if o.Verdict != 11 || !keysAre(set.At(1), 3, 1, 2) {
		t.Errorf("%+v, %v", o, set.At(1).All())
	}
}

func keysAre(m *maps.Map, keys ...int) bool {
	return slices.EqualFunc(m.All(), keys, func(e maps.Entry, key int) bool { return e.Key == key })
}

// P19.1: StoreVal changes the one word of the one value, in hooks that are asked, too; in an Lru it is no use.
func TestStoreVal(t *testing.T) {
	for h := 1; h <= 8; h++ {
		for of, p := range start() {
			for at, e := range p.list {
				for k := range e.Value {
					for _, n := range farInts {
						ctx := zeros(h)
						ctx[0] = n
						o, set := runOn(t, h, ctx, append(refTo(6, of, e.Key), loadCtx(0, 0), storeVal(6, k, 0), loadVal(0, 6, k), exit())...)
						want := start()
						want[of].list[at].Value[k] = n
						want[of].use(e.Key)
						if o.Verdict != n || o.Steps != 8 || !sameMaps(set, want) {
							t.Errorf("%+v, %v", o, told(set))
						}
					}
				}
			}
		}
	}
	l := append(refTo(6, 1, 1), refTo(7, 1, 2)...)
	_, set := runOn(t, 4, zeros(4), append(l, imm(0, 5), storeVal(6, 3, 0), exit())...)
	if v, _ := set.At(1).Get(1); v != (maps.Value{11, 0, 0, 5}) || !keysAre(set.At(1), 3, 1, 2) {
		t.Error(set.At(1).All())
	}
}

// P19.1: Find answers a reference to the value of a key that is there, which is used, and else 0, and nothing is.
func TestFind(t *testing.T) {
	for h := 1; h <= 8; h++ {
		o, set := runOn(t, h, zeros(h), append(help(1, 1, 1), loadVal(0, 0, 0), exit())...)
		if o.Verdict != 11 || o.Steps != 5 || !keysAre(set.At(1), 2, 3, 1) || !keysAre(set.At(0), 5) || !keysAre(set.At(2), 9) {
			t.Errorf("%+v, %v", o, told(set))
		}
		for _, of := range []int{0, 1, 2} {
			for _, key := range []int{0, 4, -1, -5, 6, 8, 10, math.MinInt32, math.MaxInt32} {
				o, set := runOn(t, h, zeros(h), append(help(1, of, key), exit())...)
				if o.How != vm.Done || o.Verdict != 0 || o.Steps != 4 || !sameMaps(set, start()) {
					t.Errorf("%+v, %v", o, told(set))
				}
			}
		}
	}
}

// P19.1: of a Hash the order stays, whatever was found.
func TestFindInHash(t *testing.T) {
	with := []*plainMap{{kind: 1, room: 3, list: []maps.Entry{{Key: 1}, {Key: 2}, {Key: 3}}}}
	_, set := runWith(t, with, 4, zeros(4), append(append(help(1, 0, 1), help(3, 0, 2, 5, 6)...), exit())...)
	if want := []maps.Entry{{Key: 1}, {Key: 2, Value: maps.Value{5, 6}}, {Key: 3}}; !slices.Equal(set.At(0).All(), want) {
		t.Error(set.At(0).All())
	}
}

// P19.1: Count answers how many entries a map has, from none to eight, and reads one argument alone.
func TestCount(t *testing.T) {
	for h := 1; h <= 8; h++ {
		for of, n := range []int{1, 3, 1} {
			ends(t, 0, n, 3, h, zeros(h), append(help(2, of), exit())...)
		}
		for n := range 9 {
			p := &plainMap{kind: 1 + n%2, room: 8}
			for k := range n {
				p.put(k, k, k)
			}
			with := []*plainMap{{kind: 1, room: 1}, p, {kind: 2, room: 1}}
			if o, _ := runWith(t, with, h, zeros(h), append(help(2, 1), exit())...); o.Verdict != n || o.How != vm.Done {
				t.Errorf("%d entries: %+v", n, o)
			}
		}
	}
}

// P19.1: Put answers 0 where there is room, where the key is there, and in a full Lru, of which the eldest use goes; and -28 in a full Hash, in which nothing is done. The value is the two words and two zeros.
func TestPut(t *testing.T) {
	for _, h := range []int{2, 4, 6, 7} {
		for _, x := range []struct {
			of, key, verdict int
			want             []maps.Entry
		}{
			{0, 6, 0, []maps.Entry{{Key: 5, Value: maps.Value{40, 2, -3, 7}}, {Key: 6, Value: maps.Value{-8, 9}}}},
			{0, 5, 0, []maps.Entry{{Key: 5, Value: maps.Value{-8, 9}}}},
			{1, 4, 0, []maps.Entry{{Key: 2, Value: maps.Value{12, 13, 14, 15}}, {Key: 3}, {Key: 4, Value: maps.Value{-8, 9}}}},
			{1, 2, 0, []maps.Entry{{Key: 1, Value: maps.Value{11}}, {Key: 3}, {Key: 2, Value: maps.Value{-8, 9}}}},
			{2, 9, 0, []maps.Entry{{Key: 9, Value: maps.Value{-8, 9}}}},
			{2, 8, -28, []maps.Entry{{Key: 9, Value: maps.Value{-1, -1, -1, -1}}}},
		} {
			o, set := runOn(t, h, zeros(h), append(help(3, x.of, x.key, -8, 9), exit())...)
			if o.How != vm.Done || o.Verdict != x.verdict || o.Steps != 6 || !slices.Equal(set.At(x.of).All(), x.want) {
				t.Errorf("hook %d, %+v: %+v, %v", h, x, o, told(set))
			}
			for of, p := range start() {
				if of != x.of && !slices.Equal(set.At(of).All(), p.list) {
					t.Errorf("hook %d, %+v: %v", h, x, told(set))
				}
			}
		}
	}
}

// P19.1: any int is a key, and a word, of Put, Find and Drop.
func TestFarKeys(t *testing.T) {
	h := 6
	for _, key := range farInts {
		for _, n := range farInts {
			ctx := []int{key, n, ^n, 0, 0, 0, 0}
			l := []insn.Insn{imm(1, 0), loadCtx(2, 0), loadCtx(3, 1), loadCtx(4, 2), call(3), imm(1, 0), loadCtx(2, 0), call(1)}
			ends(t, 0, n, 10, h, ctx, append(slices.Clone(l), loadVal(0, 0, 0), exit())...)
			ends(t, 0, ^n, 10, h, ctx, append(slices.Clone(l), loadVal(0, 0, 1), exit())...)
			o, set := runOn(t, h, ctx, append(l, imm(1, 0), loadCtx(2, 0), call(4), exit())...)
			if o.Verdict != 0 || o.Steps != 12 || !keysAre(set.At(0), slices.DeleteFunc([]int{5}, func(k int) bool { return k == key })...) {
				t.Errorf("%+v, %v", o, told(set))
			}
		}
	}
}

// P19.1: Drop answers 0, and -2 when the key isn't there, as the second time.
func TestDrop(t *testing.T) {
	for _, h := range []int{2, 4, 6, 7} {
		for of, p := range start() {
			for _, e := range p.list {
				o, set := runOn(t, h, zeros(h), append(help(4, of, e.Key), exit())...)
				want := start()
				want[of].drop(e.Key)
				if o.How != vm.Done || o.Verdict != 0 || o.Steps != 4 || !sameMaps(set, want) || set.Entries() != 4 {
					t.Errorf("hook %d: %+v, %v", h, o, told(set))
				}
				ends(t, 0, -2, 7, h, zeros(h), append(append(help(4, of, e.Key), help(4, of, e.Key)...), exit())...)
			}
			o, set := runOn(t, h, zeros(h), append(help(4, of, 77), exit())...)
			if o.How != vm.Done || o.Verdict != -2 || o.Steps != 4 || !sameMaps(set, start()) {
				t.Errorf("hook %d: %+v, %v", h, o, told(set))
			}
		}
	}
}

// answers are helpers that answer each thing that they may, with a map and a key.
var answers = []struct{ helper, of, key int }{{1, 0, 5}, {1, 0, 6}, {2, 0, 0}, {2, 1, 0}, {3, 0, 6}, {3, 0, 5}, {3, 2, 8}, {3, 1, 8}, {4, 0, 5}, {4, 0, 6}}

// P19.1: behind a helper registers 1 to 5 are unset, arguments or not, and 6 and 7, the stack and the outputs stay; register 0 has the answer, whatever it had.
func TestRegistersBehindHelper(t *testing.T) {
	for h := 1; h <= 8; h++ {
		for _, x := range answers {
			if x.helper > 2 && !hooks[h].told {
				continue
			}
			l := []insn.Insn{imm(0, 100), imm(1, x.of), imm(2, x.key), imm(3, 103), imm(4, 104), imm(5, 105), imm(6, 106), imm(7, 107), storeStack(0, 6), storeStack(7, 7), call(x.helper)}
			for k := 1; k <= 5; k++ {
				ends(t, vm.Unset, 0, 11, h, zeros(h), append(slices.Clone(l), mov(6, k), exit())...)
				ends(t, vm.Unset, 0, 11, h, zeros(h), append(slices.Clone(l), with(insn.AddImm, k, 1), exit())...)
			}
			for want, i := range map[int]insn.Insn{106: mov(0, 6), 107: mov(0, 7)} {
				ends(t, 0, want, 13, h, zeros(h), append(slices.Clone(l), i, exit())...)
			}
			ends(t, 0, 106, 13, h, zeros(h), append(slices.Clone(l), loadStack(0, 0), exit())...)
			ends(t, 0, 107, 13, h, zeros(h), append(slices.Clone(l), loadStack(0, 7), exit())...)
			ends(t, vm.Blank, 0, 11, h, zeros(h), append(slices.Clone(l), loadStack(0, 1), exit())...)
			for k := range hooks[h].outputs {
				at := hooks[h].inputs + k
				ends(t, 0, 5, 15, h, zeros(h), programs([]insn.Insn{imm(6, 5), storeCtx(at, 6)}, l, []insn.Insn{loadCtx(0, at), exit()})...)
			}
		}
	}
}

// P19.1: references in 6 and 7 stay behind a helper, and those in 1 to 5 don't.
func TestReferencesBehindHelper(t *testing.T) {
	l := append(append(refTo(6, 0, 5), refTo(7, 1, 2)...), mov(5, 6))
	l = append(l, help(2, 0)...)
	ends(t, 0, 40, 13, 3, zeros(3), append(slices.Clone(l), loadVal(0, 6, 0), exit())...)
	ends(t, 0, 12, 13, 3, zeros(3), append(slices.Clone(l), loadVal(0, 7, 0), exit())...)
	ends(t, vm.Unset, 0, 11, 3, zeros(3), append(slices.Clone(l), loadVal(0, 5, 0), exit())...)
}

// P19.1: the maps of a set by their numbers: each of four.
func TestFourMaps(t *testing.T) {
	for of := range 4 {
		with := []*plainMap{{kind: 1, room: 2}, {kind: 2, room: 2}, {kind: 1, room: 1}, {kind: 2, room: 8}}
		for k, p := range with {
			p.put(7, 100+k, 0)
		}
		o, set := runWith(t, with, 4, zeros(4), append(append(help(1, of, 7), loadVal(6, 0, 0)), append(help(4, of, 7), mov(0, 6), exit())...)...)
		if o.Verdict != 100+of || set.At(of).Len() != 0 || set.Entries() != 3 {
			t.Errorf("%d: %+v, %v", of, o, told(set))
		}
		with = []*plainMap{{kind: 1, room: 2}, {kind: 2, room: 2}, {kind: 1, room: 1}, {kind: 2, room: 8}}[:of]
		if o, _ := runWith(t, with, 4, zeros(4), append(help(2, of), exit())...); o.Why != vm.NoMap {
			t.Errorf("%d: %+v", of, o)
		}
	}
}

// P19.1: what was done to maps ahead of a fault stays, and what would come behind it isn't done.
func TestMapsBehindFault(t *testing.T) {
	h, ctx := 4, zeros(4)
	done := programs(help(3, 0, 6, 1, 2), refTo(7, 1, 1), []insn.Insn{imm(6, 5), storeVal(7, 3, 6)}, help(4, 2, 9))
	want := start()
	want[0].put(6, 1, 2)
	want[1].use(1)
	want[1].list[2].Value[3] = 5
	want[2].drop(9)
	for why, l := range map[int][]insn.Insn{
		vm.Fuel: one(jump(-1)), vm.Outside: one(jump(50)), vm.Unset: one(mov(0, 1)), vm.NoNumber: one(mov(0, 7)),
		vm.Field: one(loadCtx(0, -1)), vm.Input: one(storeCtx(0, 6)), vm.Word: one(loadStack(0, 8)), vm.Blank: one(loadStack(0, 0)),
		vm.NoRef: one(loadVal(0, 6, 0)), vm.Slot: one(loadVal(0, 7, 4)), vm.Helper: one(call(5)), vm.NoMap: help(4, 3, 5),
	} {
		o, set := runOn(t, h, ctx, programs(done, l, one(exit()), help(4, 0, 5), one(exit()))...)
		if o.How != vm.Fault || o.Why != why || !sameMaps(set, want) {
			t.Errorf("%+v, %v", o, told(set))
		}
	}
	want[1].drop(1)
	o, set := runOn(t, h, ctx, programs(done, help(4, 1, 1), one(loadVal(0, 7, 3)), help(4, 0, 5))...)
	if o.Why != vm.Stale || !sameMaps(set, want) {
		t.Errorf("%+v, %v", o, told(set))
	}
}
