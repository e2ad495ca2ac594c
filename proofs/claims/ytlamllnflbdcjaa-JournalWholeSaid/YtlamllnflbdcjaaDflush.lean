/-
  The contract of disk's Flush.
-/
import Derived.Test.YtlamllnflbdcjaaDtorn
namespace Go.Proofs.Ytlamllnflbdcjaa
open Go.RowKit Go.Maps
open Dk (zeros zeros_length)

/-- what lasts while some of the cache is still to come -/
def mixL (s : Dk.St) (left : Nat → Bool) : List (List UInt8) := (List.range s.last.length).map fun i => if left i then Dk.lastAt s i else Dk.nowAt s i
theorem mixL_length (s : Dk.St) (left : Nat → Bool) : (mixL s left).length = s.last.length := by unfold mixL; simp
theorem mixL_at (s : Dk.St) (left : Nat → Bool) (i : Nat) (hi : i < s.last.length) : (mixL s left)[i]? = some (if left i then Dk.lastAt s i else Dk.nowAt s i) := by
  unfold mixL
  rw [List.getElem?_map, List.getElem?_range hi]; rfl
theorem mixL_start (s : Dk.St) (left : Nat → Bool) (h : ∀ i, i < s.last.length → left i = false → Dk.cacheAt s i = none) : mixL s left = s.last := by
  apply List.ext_getElem?
  intro i
  by_cases hi : i < s.last.length
  · rw [mixL_at s left i hi]
    have hl : s.last[i]? = some (Dk.lastAt s i) := by unfold Dk.lastAt; rw [List.getD_eq_getElem?_getD, List.getElem?_eq_getElem hi]; rfl
    rw [hl]
    cases e : left i with
    | true => rfl
    | false =>
      have := h i hi e
      simp [Dk.nowAt, this]
  · rw [List.getElem?_eq_none (by rw [mixL_length]; omega), List.getElem?_eq_none (by omega)]
theorem mixL_end (s : Dk.St) (left : Nat → Bool) (h : ∀ i, left i = false) : mixL s left = (Dk.flushed s).last := by
  unfold mixL Dk.flushed
  apply List.map_congr_left
  intro i _
  rw [h i]; rfl
theorem mixL_step (s : Dk.St) (left left' : Nat → Bool) (i : Nat) (p : List UInt8) (hi : i < s.last.length) (hp : Dk.cacheAt s i = some p) (h1 : left' i = false) (h2 : ∀ j, j ≠ i → left' j = left j) : (mixL s left).set i p = mixL s left' := by
  apply List.ext_getElem?
  intro j
  rw [List.getElem?_set]
  by_cases e : i = j
  · subst e
    rw [if_pos rfl, if_pos (by rw [mixL_length]; exact hi), mixL_at s left' i hi, h1]
    simp [Dk.nowAt, hp]
  · rw [if_neg e]
    by_cases hj : j < s.last.length
    · rw [mixL_at s left j hj, mixL_at s left' j hj, h2 j (fun q => e q.symm)]
    · rw [List.getElem?_eq_none (by rw [mixL_length]; omega), List.getElem?_eq_none (by rw [mixL_length]; omega)]

theorem Only.newer {l : List Nat} {b : Nat} {a w w' : World} (h : Only l a w) (k : Only [b] w w') (hb : a.heap.size ≤ b) : Only l a w' :=
  ⟨k.os.trans h.os, k.tape.trans h.tape, k.output.trans h.output, Nat.le_trans h.size k.size, fun i hi hn => (k.block i (Nat.lt_of_lt_of_le hi h.size) (by simp; omega)).trans (h.block i hi hn)⟩

/-- the loop over the cache -/
structure FlushAt (w1 : World) (l m r : Nat) (s : Dk.St) (D : DataW (List UInt8)) (left : Lit → Bool) (cnt : Nat) (w : World) : Prop where
  rg : w.ranges Try.prog 3 pageR m r (Maps.size D) D left cnt
  rows : RowsAt w l (mixL s (fun i => left (.int .i64 (i : Int))))
  only : Only [l] w1 w
  sub : ∀ kl, left kl = true → Maps.has D kl = true
theorem invK : ∀ key kl, keyOf Try.prog 3 key = some kl → ∃ x, key = Value.int .i64 x := fun key kl h => by
  obtain ⟨x, rfl, _⟩ := Maps.keyOf_int_inv Try.underlying3 h
  exact ⟨x, rfl⟩
theorem invV : ∀ v (y : DataW (List UInt8) × List MemPlace), pageR v = some y → ∃ c, v = pageV c := fun v y h => by
  obtain ⟨p, _, rfl, _⟩ := pageR_inv h
  exact ⟨p, rfl⟩
/-- what has come: a page of the cache -/
theorem came {s : Dk.St} (hok : s.Ok) {D : DataW (List UInt8)} (hD : MapIs D s.cache) {x : Int} {c : List UInt8} {kl : Lit} {y : DataW (List UInt8) × List MemPlace} (hkey : keyOf Try.prog 3 (.int .i64 x) = some kl) (hl : Maps.has D kl = true) (hv : pageR (pageV c) = some y) (hat : ∀ zd, D.atKey kl zd = y.1) :
    ∃ i : Nat, x = (i : Int) ∧ kl = .int .i64 (i : Int) ∧ i < s.last.length ∧ Dk.cacheAt s i = some c ∧ c.length = 64 := by
  obtain ⟨x', ex, rfl, _⟩ := Maps.keyOf_int_inv Try.underlying3 hkey
  injection ex with _ ex
  subst ex
  rw [hD.has] at hl
  have h0 : 0 ≤ x ∧ (s.cache.getD x.toNat none).isSome = true := by simpa using hl
  obtain ⟨i, rfl⟩ := Int.eq_ofNat_of_zero_le h0.1
  rw [Int.toNat_natCast] at h0
  obtain ⟨p, hp⟩ := Option.isSome_iff_exists.1 h0.2
  obtain ⟨q, hq, e1, e2⟩ := pageR_inv hv
  have hcq := pageV_inj e1
  have := hD.held i p hp .nil
  rw [hat, e2] at this
  injection this with this
  refine ⟨i, rfl, rfl, ?_, ?_, by rw [hcq]; exact hq⟩
  · rw [List.getD_eq_getElem?_getD] at hp
    rw [← hok.same]
    by_cases hi : i < s.cache.length
    · exact hi
    · rw [List.getElem?_eq_none (by omega)] at hp; cases hp
  · unfold Dk.cacheAt; rw [hp, hcq, this]
theorem flush_loop_start {w1 w2 : World} {d l m r : Nat} {s : Dk.St} (h : DiskAt w1 d l m s) {D : DataW (List UInt8)} (hD : MapIs D s.cache) (hrg : w2.ranges Try.prog 3 pageR m r (Maps.size D) D (Maps.has D) (Maps.size D)) (hg : w1.grownBy w2 none) :
    FlushAt w1 l m r s D (Maps.has D) (Maps.size D) w2 where
  rg := hrg
  rows := by
    rw [mixL_start s _ (fun i hi e => by
      rw [hD.has] at e
      cases hc : Dk.cacheAt s i with
      | none => rfl
      | some p =>
        have : s.cache.getD i none = some p := hc
        rw [Int.toNat_natCast, this] at e
        simp at e)]
    exact h.rows.block (hg.block l h.llt (by simp))
  only := Only.grownNone hg
  sub := fun _ h => h
theorem flush_next {w1 w w' : World} {l m r : Nat} {s : Dk.St} {D : DataW (List UInt8)} {left : Lit → Bool} {cnt cnt' : Nat} {i : Nat} {p : List UInt8} (h : FlushAt w1 l m r s D left cnt w) (hr : w1.heap.size ≤ r) (hl : l < w1.heap.size) (_hm : m < w1.heap.size) (hlm : l ≠ m)
    (hrg : w'.ranges Try.prog 3 pageR m r (Maps.size D) D (fun z => left z && !z.sameKey (.int .i64 (i : Int))) cnt') (hg : w.grownBy w' (some r)) (hi : i < s.last.length) (hp : Dk.cacheAt s i = some p) (hpl : p.length = 64) {w2 : World} (hb : Below w'.heap.size w' w2) :
    RowsAt w2 l (mixL s (fun i => left (.int .i64 (i : Int)))) ∧ FlushAt w1 l m r s D (fun z => left z && !z.sameKey (.int .i64 (i : Int))) cnt' (w2.setCells l (i * 64) (byteVals p)) ∧ Only [l] w1 w2 := by
  have ho : Only [l] w1 w2 := (h.only.newer (Only.grown hg (by simp)) hr).trans (Only.below hb)
  have hlw : l < w'.heap.size := Nat.lt_of_lt_of_le (Nat.lt_of_lt_of_le hl h.only.size) hg.size
  have hrow : RowsAt w2 l (mixL s (fun i => left (.int .i64 (i : Int)))) :=
    (h.rows.block (hg.block l (Nat.lt_of_lt_of_le hl h.only.size) (fun e => by injection e with e; omega))).block (hb.block l hlw)
  refine ⟨hrow, ⟨?_, ?_, Only.setCells l (by simp) _ _ _ ho, fun kl e => h.sub kl (by simp at e; exact e.1)⟩, ho⟩
  · have h1 : w2.ranges Try.prog 3 pageR m r (Maps.size D) D (fun z => left z && !z.sameKey (.int .i64 (i : Int))) cnt' :=
      hrg.kept (row := none) ⟨hb.os, hb.tape, hb.output, hb.size, fun k hk _ => hb.block k hk⟩ (by simp) (by simp)
    have hrl : r ≠ l := by omega
    refine h1.kept (row := some l) ⟨?_, ?_, ?_, ?_, ?_⟩ (fun e => by injection e with e; exact hlm e.symm) (fun e => by injection e with e; exact hrl e)
    · exact (Only.setCells (a := w2) l (l := [l]) (by simp) (byteVals p) (i * 64) w2 (Only.refl _ _)).os
    · exact (Only.setCells (a := w2) l (l := [l]) (by simp) (byteVals p) (i * 64) w2 (Only.refl _ _)).tape
    · exact (Only.setCells (a := w2) l (l := [l]) (by simp) (byteVals p) (i * 64) w2 (Only.refl _ _)).output
    · exact (Only.setCells (a := w2) l (l := [l]) (by simp) (byteVals p) (i * 64) w2 (Only.refl _ _)).size
    · intro k hk hn
      exact heap_setCells_other l _ _ _ k (fun e => hn (by rw [e]))
  · have := hrow.put i (by rw [mixL_length]; exact hi) p hpl
    rw [mixL_step s _ (fun j => left (.int .i64 (j : Int)) && !(Lit.int .i64 (j : Int)).sameKey (.int .i64 (i : Int))) i p hi hp (by simp [Lit.sameKey]) (fun j hj => by
      have hne : (j : Int) ≠ (i : Int) := by omega
      simp [Lit.sameKey, hne])] at this
    exact this
theorem flush_end {w1 w w' : World} {d l m r : Nat} {s : Dk.St} (h1 : DiskAt w1 d l m s) {D : DataW (List UInt8)} {left : Lit → Bool} {cnt : Nat} (h : FlushAt w1 l m r s D left cnt w) (hleft : ∀ kl, left kl = false)
    (hm : MapAt w' m (List.replicate s.last.length none)) (ht : w.mapTurned w' m) : DiskAt w' d l m (Dk.flushed s) ∧ Only [l, m] w1 w' := by
  have hd : w'.heap[d]? = w1.heap[d]? := (ht.grown.block d (Nat.lt_of_lt_of_le h1.dlt h.only.size) (fun e => h1.dm (by injection e))).trans (h.only.block d h1.dlt (by simpa using h1.dl))
  have hrow : RowsAt w' l (Dk.flushed s).last := by
    rw [← mixL_end s (fun i => left (.int .i64 (i : Int))) (fun i => hleft _)]
    exact h.rows.block (ht.grown.block l (Nat.lt_of_lt_of_le h1.llt h.only.size) (fun e => h1.lm (by injection e)))
  have hlen : (Dk.flushed s).last.length = s.last.length := by unfold Dk.flushed; simp
  refine ⟨?_, (h.only.mono (by simp)).trans (Only.grown ht.grown (by simp))⟩
  exact { ok := Dk.flushed_ok h1.ok, dl := h1.dl, dm := h1.dm, lm := h1.lm
          c0 := (World.cell?_of_block (w := w1) (a := ⟨d, 0, none⟩) hd).trans h1.c0
          c1 := (World.cell?_of_block (w := w1) (a := ⟨d, 1, none⟩) hd).trans h1.c1
          c2 := (World.cell?_of_block (w := w1) (a := ⟨d, 2, none⟩) hd).trans h1.c2
          c3 := by rw [hlen]; exact (World.cell?_of_block (w := w1) (a := ⟨d, 3, none⟩) hd).trans h1.c3
          c4 := (World.cell?_of_block (w := w1) (a := ⟨d, 4, none⟩) hd).trans h1.c4
          f0 := (World.frozen?_of_block (w := w1) (a := ⟨d, 0, none⟩) hd).trans h1.f0
          f1 := (World.frozen?_of_block (w := w1) (a := ⟨d, 1, none⟩) hd).trans h1.f1
          f2 := (World.frozen?_of_block (w := w1) (a := ⟨d, 2, none⟩) hd).trans h1.f2
          rows := hrow, map := hm }
end Go.Proofs.Ytlamllnflbdcjaa
