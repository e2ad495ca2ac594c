/-
  A map of bools that holds just the bits that are 1.
-/
import Derived.Test.YtjjejdjhlnlhiaaBset
import Derived.Test.YtjjejdjhlnlhiaaBtmath
import Derived.Maps.OwnSet
import Derived.Maps.OwnOps
namespace Go.Proofs.Ytjjejdjhlnlhiaa
open Go.RowKit Go.Maps

/-- the map's keys are the bits that are 1 -/
structure SetIs (D : DataW Unit) (bs : List UInt8) : Prop where
  has : ∀ i : Int, Maps.has D (.int .i64 i) = Bt.getB bs i
  held : ∀ i : Nat, Bt.bit bs i = true → ∀ z, D.atKey (.int .i64 (i : Int)) z = .lit (.bool true)
  size : Maps.size D = Bt.cnt bs
def SetAt (w : World) (b : Nat) (bs : List UInt8) : Prop := ∃ D, w.ownsMap Try.prog 3 (plainElem Try.prog 4) b (Maps.size D) D ∧ SetIs D bs
theorem keyLaw : Keyed Try.prog 3 := int_keyed Try.underlying3
theorem zeroBool (w : World) : (zeroValue 4).run Try.prog w = .ok (.bool false) w := by kernel_rfl
theorem wf_i64 {i : Int} (h1 : -9223372036854775808 ≤ i) (h2 : i ≤ 9223372036854775807) : (Lit.int .i64 i).wf = true := WalkArith.wf_i64 (by omega)
theorem SetAt.block {w w' : World} {b : Nat} {bs : List UInt8} (h : SetAt w b bs) (hb : w'.heap[b]? = w.heap[b]?) : SetAt w' b bs := by
  obtain ⟨D, ⟨es, clock, h1, h2⟩, h3⟩ := h
  exact ⟨D, ⟨es, clock, hb.trans h1, h2⟩, h3⟩
theorem SetAt.lt {w : World} {b : Nat} {bs : List UInt8} (h : SetAt w b bs) : b < w.heap.size := by
  obtain ⟨D, h1, _⟩ := h
  exact h1.lt
theorem SetAt.step {w w' : World} {b : Nat} {bs : List UInt8} (h : SetAt w b bs) (hb : Below w.heap.size w w') : SetAt w' b bs := h.block (hb.block b h.lt)
theorem tight {w : World} {b n : Nat} {D : DataW Unit} (h : w.ownsMap Try.prog 3 (plainElem Try.prog 4) b n D) : w.ownsMap Try.prog 3 (plainElem Try.prog 4) b (Maps.size D) D := by
  obtain ⟨es, clock, hb, F, hs, rfl⟩ := h
  exact ⟨es, clock, hb, F, by simp [Maps.size, length_sorted], rfl⟩
theorem plainBool_inv {v : Value} {z : DataW Unit × List MemPlace} (h : plainElem Try.prog 4 v = some z) : ∃ x, v = .bool x ∧ z = (.lit (.bool x), []) := by
  unfold plainElem at h
  rw [Try.underlying4] at h
  cases v <;> simp at h
  rename_i x
  exact ⟨x, rfl, h.symm⟩
theorem setAt_made (w : World) (bs : List UInt8) (h0 : ∀ i, Bt.bit bs i = false) (hc : Bt.cnt bs = 0) : SetAt (w.alloc (.map #[] 0)) w.heap.size bs := by
  refine ⟨.map [], World.ownsMap_made _ _ _ _, ?_, ?_, ?_⟩
  · intro i
    rw [has_eq]
    unfold Bt.getB
    rw [h0]
    simp
  · intro i hi
    rw [h0] at hi; cases hi
  · rw [hc]; rfl
theorem SetAt.look {w : World} {b : Nat} {bs : List UInt8} (h : SetAt w b bs) (i : Nat) (hi : i ≤ 1000) :
    (Instr.lookup 44 (.map (some b)) (.int .i64 (i : Int)) false).run Try.prog w = .ok (.bool (Bt.bit bs i)) w := by
  obtain ⟨D, h1, h3⟩ := h
  obtain ⟨v, ps, hrun, hv⟩ := h1.lookup (t := 44) (e := 4) keyLaw Try.underlying44 (zeroBool w) (plainElem_bool Try.underlying4 false) (key := .int .i64 (i : Int)) (keyOf_int_mk Try.underlying3 (wf_i64 (by omega) (by omega)))
  obtain ⟨x, rfl, e⟩ := plainBool_inv hv
  rw [hrun]
  injection e with e _
  have hx : x = Bt.bit bs i := by
    cases hb : Bt.bit bs i with
    | false =>
      have hh : Maps.has D (.int .i64 (i : Int)) = false := by rw [h3.has, Bt.getB_nat, hb]
      rw [atKey_of_not_has hh] at e
      injection e with e; injection e with e
      exact e.symm
    | true =>
      rw [h3.held i hb] at e
      injection e with e; injection e with e
      exact e.symm
  rw [hx]
theorem SetAt.len {w : World} {b : Nat} {bs : List UInt8} (h : SetAt w b bs) (ty : TypeId) : (Builtin.len_ #[44] ty #[.map (some b)]).run Try.prog w = .ok (.int .i64 (Bt.cnt bs : Int)) w := by
  obtain ⟨D, h1, h3⟩ := h
  rw [h1.len Try.underlying44, h3.size]
theorem SetAt.store {w : World} {b : Nat} {bs : List UInt8} (h : SetAt w b bs) (hl : bs.length = 64) (i : Nat) (hi : i < 512) (hb0 : Bt.bit bs i = false) :
    ∃ w', (Instr.mapUpdate 44 (.map (some b)) (.int .i64 (i : Int)) (.bool true)).run Try.prog w = .ok () w' ∧ SetAt w' b (Bt.setBit bs i true) ∧ w.mapTurned w' b := by
  obtain ⟨D, h1, h3⟩ := h
  have hsz : Maps.size D ≤ 512 := by rw [h3.size]; exact Bt.cnt_le bs hl
  obtain ⟨w', hrun, hown, hturn⟩ := h1.store (t := 44) (e := 4) keyLaw Try.underlying44 (by unfold maxLen; omega) (key := .int .i64 (i : Int)) (val := .bool true) (keyOf_int_mk Try.underlying3 (wf_i64 (by omega) (by omega))) (plainElem_bool Try.underlying4 true)
  refine ⟨w', hrun, ⟨_, tight hown, ?_, ?_, ?_⟩, hturn⟩
  · intro j
    by_cases e : j = (i : Int)
    · subst e
      rw [has_put_same (k := .int .i64 (i : Int)) h1.isMap trivial, Bt.getB_nat, Bt.bit_set bs i i true (by omega), if_pos rfl]
    · rw [has_put_other (fun q => e (by injection q)), h3.has]
      unfold Bt.getB
      by_cases hj : 0 ≤ j
      · rw [if_pos hj, if_pos hj, Bt.bit_set bs i _ true (by omega), if_neg (by omega)]
      · rw [if_neg hj, if_neg hj]
  · intro j hq z
    by_cases e : i = j
    · subst e
      rw [atKey_put_same (k := .int .i64 (i : Int)) h1.isMap trivial]
    · rw [Bt.bit_set bs i j true (by omega), if_neg e] at hq
      rw [atKey_put_other (fun k => e (Int.ofNat_inj.1 (Lit.int.inj k).2.symm))]
      exact h3.held j hq z
  · rw [size_put (h1.tidy keyLaw), h3.has, Bt.getB_nat, hb0, h3.size]
    have := Bt.cnt_set bs hl i true hi
    rw [hb0] at this
    simp at this
    simp [this]
theorem SetAt.drop {w : World} {b : Nat} {bs : List UInt8} (h : SetAt w b bs) (hl : bs.length = 64) (i : Nat) (hi : i < 512) (ty : TypeId) :
    ∃ w', (Builtin.delete_ #[44, 3] ty #[.map (some b), .int .i64 (i : Int)]).run Try.prog w = .ok (.tuple #[]) w' ∧ SetAt w' b (Bt.setBit bs i false) ∧ w.mapTurned w' b := by
  obtain ⟨D, h1, h3⟩ := h
  obtain ⟨w', hrun, hown, hturn⟩ := h1.drop (t := 44) (e := 4) keyLaw Try.underlying44 (key := .int .i64 (i : Int)) (keyOf_int_mk Try.underlying3 (wf_i64 (by omega) (by omega))) ty
  refine ⟨w', hrun, ⟨_, tight hown, ?_, ?_, ?_⟩, hturn⟩
  · intro j
    by_cases e : j = (i : Int)
    · subst e
      rw [has_del_same, Bt.getB_nat, Bt.bit_set bs i i false (by omega), if_pos rfl]
    · rw [has_del_other (fun q => e (by injection q)), h3.has]
      unfold Bt.getB
      by_cases hj : 0 ≤ j
      · rw [if_pos hj, if_pos hj, Bt.bit_set bs i _ false (by omega), if_neg (by omega)]
      · rw [if_neg hj, if_neg hj]
  · intro j hq z
    by_cases e : i = j
    · subst e
      rw [Bt.bit_set bs i i false (by omega), if_pos rfl] at hq
      cases hq
    · rw [Bt.bit_set bs i j false (by omega), if_neg e] at hq
      rw [atKey_del_other (fun k => e (Int.ofNat_inj.1 (Lit.int.inj k).2.symm))]
      exact h3.held j hq z
  · have h4 := size_del (k := .int .i64 (i : Int)) (h1.tidy keyLaw)
    rw [h3.has, Bt.getB_nat, h3.size] at h4
    have := Bt.cnt_set bs hl i false hi
    cases hb : Bt.bit bs i <;> rw [hb] at h4 this <;> simp at h4 this <;> omega
/-- pages lie on through a turn of the map -/
theorem Row.turned {w w' : World} {A : Option Addr} {n b : Nat} {bs : List UInt8} (h : Row w A n bs) (ht : w.mapTurned w' b) : Row w' A n bs := by
  have hg := ht.grown
  refine h.keep hg.size fun h0 k off e hlt => hg.block k hlt ?_
  obtain ⟨k', off', e', _, hc⟩ := h.cells h0
  rw [e] at e'
  injection e' with e'; injection e' with e1 e2
  obtain ⟨es, clock, _, _, hb, _⟩ := ht
  intro q
  injection q with q
  have c0 := hc 0 (by omega)
  unfold World.cell? at c0
  rw [← e1, q, hb] at c0
  simp at c0
end Go.Proofs.Ytjjejdjhlnlhiaa
