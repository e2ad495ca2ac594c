/-
  A slice of structs that a call makes and fills: rows of z cells in a block of its own.
-/
import Derived.Test.YteobdjgodljjmaaAbase
import Derived.Laws.MakeOwn
namespace Go.Proofs.Yteobdjgodljjmaa
open Go.RowKit Go.Maps

structure TabAt (w : World) (b z : Nat) (rs : List (List Value)) : Prop where
  lens : ∀ r ∈ rs, r.length = z
  range : ∀ i r, rs[i]? = some r → w.rangeAt b (i * z) r
  free : w.there b 0 (rs.length * z)
theorem TabAt.thereAt {w : World} {b z : Nat} {rs : List (List Value)} (h : TabAt w b z rs) (i : Nat) (hi : i < rs.length) : w.there b (i * z) z := fun j hj => by
  have : (i + 1) * z ≤ rs.length * z := Nat.mul_le_mul_right _ hi
  have e : (i + 1) * z = i * z + z := Nat.succ_mul _ _
  have := h.free (i * z + j) (by omega)
  rwa [Nat.zero_add] at this
theorem TabAt.below {w w' : World} {b z n : Nat} {rs : List (List Value)} (h : TabAt w b z rs) (hb : Below n w w') (hn : b < n) : TabAt w' b z rs where
  lens := h.lens
  range := fun i r hr j v hv => (hb.cell (p := ⟨b, i * z + j, none⟩) hn).trans (h.range i r hr j v hv)
  free := fun j hj => by
    rw [hb.cell (p := ⟨b, 0 + j, none⟩) hn, hb.frozen (p := ⟨b, 0 + j, none⟩) hn]
    exact h.free j hj
theorem TabAt.set {w : World} {b z : Nat} {rs : List (List Value)} (h : TabAt w b z rs) (i : Nat) (hi : i < rs.length) (q : List Value) (hq : q.length = z) : TabAt (w.setCells b (i * z) q) b z (rs.set i q) where
  lens := fun r hr => by
    rcases List.mem_or_eq_of_mem_set hr with h1 | h1
    · exact h.lens r h1
    · rw [h1]; exact hq
  range := fun j r hr => by
    rw [List.getElem?_set] at hr
    by_cases e : i = j
    · subst e
      rw [if_pos rfl, if_pos hi] at hr
      injection hr with hr
      subst hr
      exact World.rangeAt_setCells_same _ _ _ _ (by rw [hq]; exact h.thereAt i hi)
    · rw [if_neg e] at hr
      have hl : r.length = z := h.lens r (List.mem_of_getElem? hr)
      refine World.rangeAt_setCells_apart (h.range j r hr) _ _ _ (Or.inr ?_)
      rw [hq, hl]
      rcases Nat.lt_or_gt_of_ne e with g | g
      · have h1 : (i + 1) * z ≤ j * z := Nat.mul_le_mul_right _ g
        have h2 : (i + 1) * z = i * z + z := Nat.succ_mul _ _
        omega
      · have h1 : (j + 1) * z ≤ i * z := Nat.mul_le_mul_right _ g
        have h2 : (j + 1) * z = j * z + z := Nat.succ_mul _ _
        omega
  free := by rw [List.length_set]; exact World.there_setCells h.free _ _ _
theorem madeCells_at (cs : Array Value) (z n i j : Nat) (hz : cs.size = z) (hi : i < n) (hj : j < z) : (madeCells cs (n * z))[i * z + j]? = cs[j]? := by
  have h1 : (i + 1) * z ≤ n * z := Nat.mul_le_mul_right _ hi
  have h2 : (i + 1) * z = i * z + z := Nat.succ_mul _ _
  unfold madeCells
  rw [hz, Array.getElem?_map, Array.getElem?_range, if_pos (by omega)]
  have hm : (i * z + j) % z = j := by rw [Nat.mul_comm, Nat.mul_add_mod, Nat.mod_eq_of_lt hj]
  simp only [Option.map_some, hm]
  rw [getElem!_def, Array.getElem?_eq_getElem (by omega)]
theorem tab_new (w : World) (cs : List Value) (z n : Nat) (t : TypeId) (hz : cs.length = z) : TabAt (w.alloc (.cells (madeCells cs.toArray (n * z)) t)) w.heap.size z (List.replicate n cs) where
  lens := fun r hr => by rw [List.eq_of_mem_replicate hr]; exact hz
  range := fun i r hr => by
    have hi : i < n := by
      have := (List.getElem?_eq_some_iff.1 hr).1
      simpa using this
    have hr' : r = cs := List.eq_of_mem_replicate (List.mem_of_getElem? hr)
    subst hr'
    intro j v hv
    have hj : j < z := by
      have := (List.getElem?_eq_some_iff.1 hv).1
      omega
    rw [World.cell?_alloc_mark, madeCells_at r.toArray z n i j (by simpa using hz) hi hj, List.getElem?_toArray]
    exact hv
  free := there_new w _ t _ (by rw [size_madeCells]; simp)
theorem TabAt.many {w : World} {b z : Nat} {rs : List (List Value)} (h : TabAt w b z rs) (hb : b < w.heap.size) : ManyAt w (some ⟨b, 0, none⟩) z rs :=
  ⟨fun _ => ⟨b, 0, rfl, hb, fun i r hr => by rw [Nat.zero_add]; exact h.range i r hr⟩⟩
theorem wpList_store_tab {t : TypeId} {z : Nat} (ht : RowT t z) {ops : Array Oper} {rest : List Oper} {op : Oper} {a : Act} {Q : Exit → Act → World → Prop} {w : World} {b : Nat} {rs : List (List Value)} (h : TabAt w b z rs) (i : Nat) (hi : i < rs.length) {q : List Value} (hq : q.length = z) (ho1 : ∀ v ∈ q, v.oneCell' = true) (hgd : op.guard = none) (x y : Operand) (ho : op.op = .store t x y)
    (hx : a.eval x = .pointer (some ⟨b, i * z, none⟩)) (hy : a.eval y = .agg q.toArray) (hn : wpList Try.prog ops Q rest (a.put op.dst undef) (w.setCells b (i * z) q)) : wpList Try.prog ops Q (op :: rest) a w :=
  wpList_store_mid hgd t x y ho b (i * z) q.toArray hx hy (by rw [List.size_toArray, hq]; exact h.thereAt i hi) (by rw [ht.info, List.size_toArray, hq]) (all_oneCell_toArray ho1) (by simpa using hn)
end Go.Proofs.Yteobdjgodljjmaa
