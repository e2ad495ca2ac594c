package vm_test

import (
	"slices"
	"testing"

	"narthex/insn"
	"narthex/vm"
)

// P19.1: an unset register is asked for ahead of all that the other one, Off or a map could be at fault for.
func TestUnsetFirst(t *testing.T) {
	h, ctx := 4, zeros(4)
	// A reference.
	for _, op := range []int{insn.Add, insn.Jeq, insn.StoreStackAt} {
		ends(t, vm.Unset, 0, 4, h, ctx, append(refTo(6, 0, 5), two(op, 6, 7))...)
		ends(t, vm.Unset, 0, 4, h, ctx, append(refTo(7, 0, 5), two(op, 6, 7))...)
	}
	ends(t, vm.Unset, 0, 4, h, ctx, append(refTo(7, 0, 5), storeVal(6, 0, 7))...)
	// A field that isn't there, and an input.
	ends(t, vm.Unset, 0, 0, h, ctx, storeCtx(-1, 7))
	ends(t, vm.Unset, 0, 0, h, ctx, storeCtx(7, 7))
	ends(t, vm.Unset, 0, 0, h, ctx, storeCtx(0, 7))
	// A word that isn't there.
	ends(t, vm.Unset, 0, 0, h, ctx, storeStack(8, 7))
	ends(t, vm.Unset, 0, 1, h, ctx, imm(6, 8), two(insn.StoreStackAt, 6, 7))
	ends(t, vm.Unset, 0, 1, h, ctx, imm(6, -1), two(insn.StoreStackAt, 6, 7))
	// A number in a reference's place, a key that was dropped, a slot outside.
	ends(t, vm.Unset, 0, 1, h, ctx, imm(6, 1), storeVal(6, 0, 7))
	ends(t, vm.Unset, 0, 7, h, ctx, append(staleIn(6), storeVal(6, 0, 7))...)
	ends(t, vm.Unset, 0, 4, h, ctx, append(refTo(6, 0, 5), storeVal(6, 4, 7))...)
	ends(t, vm.Unset, 0, 4, h, ctx, append(refTo(7, 0, 5), storeVal(6, 4, 7))...)
	ends(t, vm.Unset, 0, 0, h, ctx, loadVal(0, 7, 4))
	// A map that isn't there, and arguments that are references ahead of the one that is unset.
	ends(t, vm.Unset, 0, 1, h, ctx, imm(1, -1), call(1))
	ends(t, vm.Unset, 0, 5, h, ctx, append(refTo(1, 0, 5), mov(3, 1), call(3))...)
	ends(t, vm.Unset, 0, 7, h, ctx, append(refTo(1, 0, 5), mov(2, 1), mov(3, 1), imm(5, 1), call(3))...)
	ends(t, vm.Unset, 0, 4, h, ctx, append(refTo(2, 0, 5), call(4))...)
}

// P19.1: a reference in a number's place is asked for ahead of fields, words, references' places and maps.
func TestNoNumberNext(t *testing.T) {
	h, ctx := 4, zeros(4)
	for _, k := range []int{-1, 0, 6, 7, 100} {
		ends(t, vm.NoNumber, 0, 4, h, ctx, append(refTo(7, 0, 5), storeCtx(k, 7))...)
	}
	for _, k := range []int{-1, 8, 100} {
		ends(t, vm.NoNumber, 0, 4, h, ctx, append(refTo(7, 0, 5), storeStack(k, 7))...)
		ends(t, vm.NoNumber, 0, 5, h, ctx, append(refTo(7, 0, 5), imm(6, k), two(insn.StoreStackAt, 6, 7))...)
	}
	ends(t, vm.NoNumber, 0, 5, h, ctx, append(refTo(6, 0, 5), imm(7, 1), two(insn.StoreStackAt, 6, 7))...)
	// StoreVal of a reference: into what is none, into what isn't there any more, into a slot outside.
	for _, k := range []int{-1, 0, 3, 4} {
		ends(t, vm.NoNumber, 0, 5, h, ctx, append(refTo(7, 0, 5), imm(6, 1), storeVal(6, k, 7))...)
		ends(t, vm.NoNumber, 0, 4, h, ctx, append(refTo(7, 0, 5), storeVal(7, k, 7))...)
		ends(t, vm.NoNumber, 0, 7, h, ctx, append(staleIn(7), storeVal(7, k, 7))...)
	}
	// A helper's arguments, of a map that isn't there.
	for _, of := range []int{-1, 3} {
		ends(t, vm.NoNumber, 0, 5, h, ctx, append(refTo(2, 0, 5), imm(1, of), call(1))...)
		ends(t, vm.NoNumber, 0, 5, h, ctx, append(refTo(2, 0, 5), imm(1, of), call(4))...)
		ends(t, vm.NoNumber, 0, 7, h, ctx, append(refTo(4, 0, 5), imm(1, of), imm(2, 5), imm(3, 1), call(3))...)
		ends(t, vm.NoNumber, 0, 7, h, ctx, append(refTo(3, 0, 5), imm(1, of), imm(2, 5), imm(4, 1), call(3))...)
	}
}

// P19.1: a field that isn't there is asked for ahead of an input: below the inputs there is no field.
func TestFieldAheadOfInput(t *testing.T) {
	for h := 1; h <= 8; h++ {
		for _, k := range []int{-1, -2, -32768} {
			ends(t, vm.Field, 0, 1, h, zeros(h), imm(0, 1), storeCtx(k, 0))
		}
		ends(t, vm.Input, 0, 1, h, zeros(h), imm(0, 1), storeCtx(0, 0))
		ends(t, vm.Input, 0, 1, h, zeros(h), imm(0, 1), storeCtx(hooks[h].inputs-1, 0))
	}
}

// P19.1: what is no reference is asked for ahead of a slot outside, and a key that was dropped, too.
func TestSlotLast(t *testing.T) {
	h, ctx := 4, zeros(4)
	for _, k := range []int{-32768, -1, 4, 32767} {
		ends(t, vm.NoRef, 0, 1, h, ctx, imm(6, 5), loadVal(0, 6, k))
		ends(t, vm.NoRef, 0, 1, h, ctx, imm(6, 5), storeVal(6, k, 6))
		ends(t, vm.Stale, 0, 7, h, ctx, append(staleIn(6), loadVal(0, 6, k))...)
		ends(t, vm.Stale, 0, 8, h, ctx, append(staleIn(6), imm(7, 1), storeVal(6, k, 7))...)
		ends(t, vm.Slot, 0, 4, h, ctx, append(refTo(6, 0, 5), loadVal(0, 6, k))...)
	}
}

// P19.1: a helper that may not be called reads nothing, and asks for no map.
func TestHelperAlone(t *testing.T) {
	for _, h := range []int{1, 3, 5, 8} {
		for _, helper := range []int{3, 4, 0, 5} {
			ends(t, vm.Helper, 0, 0, h, zeros(h), call(helper))
			ends(t, vm.Helper, 0, 4, h, zeros(h), append(refTo(1, 0, 5), call(helper))...)
			ends(t, vm.Helper, 0, 4, h, zeros(h), help(helper, 99, 1, 1, 1)...)
		}
	}
}

// contents are ways to let a register have something.
var contents = []func(register int) []insn.Insn{
	func(int) []insn.Insn { return nil },
	func(r int) []insn.Insn { return refTo(r, 1, 2) },
	staleIn,
	func(r int) []insn.Insn { return one(imm(r, 0)) },
	func(r int) []insn.Insn { return one(imm(r, 2)) },
	func(r int) []insn.Insn { return one(imm(r, 7)) },
	func(r int) []insn.Insn { return one(imm(r, 10)) },
	func(r int) []insn.Insn { return one(imm(r, -1)) },
}

// probes tell by how a run ends what a register or a stack word has.
func probes() [][]insn.Insn {
	var l [][]insn.Insn
	for _, k := range []int{0, 1, 2, 5, 6, 7} {
		l = append(l, []insn.Insn{mov(0, k), exit()})
	}
	for _, k := range []int{0, 2, 7} {
		l = append(l, []insn.Insn{loadStack(0, k), exit()})
	}
	return append(l, []insn.Insn{loadVal(0, 6, 1), exit()}, []insn.Insn{loadVal(0, 7, 1), exit()})
}

// P19.1: each Op, whatever its registers have, with Off and Imm of each kind: the first of the faults that it could have, or else what it does to all registers and words, against the model.
func TestEachInstruction(t *testing.T) {
	all := probes()
	seen := make([]int, 14)
	for _, o := range ops {
		for _, i := range variants(o.number) {
			for _, a := range contents {
				for _, b := range contents {
					l := append(append(a(6), b(7)...), imm(1, 1), imm(2, 1), imm(5, 3), storeStack(2, 5), i)
					// In a hook that is asked no key is dropped.
					for _, h := range []int{1, 2} {
						got, _ := runOn(t, h, zeros(h), l...)
						seen[got.Why]++
						// What went on, past the end or by a jump, is looked at.
						if got.Why != vm.Outside {
							continue
						}
						for _, p := range all {
							runOn(t, h, zeros(h), append(slices.Clone(l), p...)...)
						}
					}
				}
			}
		}
	}
	for why, n := range seen {
		if n == 0 && why != vm.NoMap {
			t.Errorf("no run ends with fault %d", why)
		}
	}
}

// variants are the right instructions of an Op with registers, Off and Imm of each kind.
func variants(number int) []insn.Insn {
	var l []insn.Insn
	for _, dst := range []int{0, 6} {
		for _, src := range []int{0, 7} {
			for _, off := range []int{-1, 0, 1, 3, 4, 7, 8, 10} {
				for _, n := range []int{0, 1, 2, 3, 5} {
					l = append(l, insn.Insn{Op: number, Dst: dst, Src: src, Off: off, Imm: n})
				}
			}
		}
	}
	return slices.DeleteFunc(l, func(i insn.Insn) bool { return !insn.Right(i) })
}
