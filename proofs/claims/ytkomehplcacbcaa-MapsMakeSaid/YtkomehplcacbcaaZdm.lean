/-
  The document's maps, made one by one beside the project's.
-/
import Derived.Test.YtkomehplcacbcaaZmk1
namespace Go.Proofs.Ytkomehplcacbcaa
open Go.RowKit Go.Maps

structure DmS (w : World) (base n : Nat) (xs : List (Int × Int)) (v : Value) (bs : List Nat) (ms : List Mp) (k : Nat) (u : Value) (cs : List Nat) (rs : List Mp) (W : World) : Prop where
  st : W.ownsRow base 34 1 v n (ptrs bs)
  rt : W.ownsRow base 32 1 u k (ptrs cs)
  all : Ms base (fun j => v.ownBlock = some j ∨ u.ownBlock = some j) (ms ++ rs) W
  mlen : ms.length = n
  len : rs.length = k
  isp : ∀ i x, i < n → xs[i]? = some x → goodSp x = true ∧ ms[i]? = some (freshP x (bs.getD i 0))
  is : ∀ i x, i < k → xs[i]? = some x → rs[i]? = some (freshR x (cs.getD i 0))
  bel : Below w.heap.size w W
  low : w.heap.size ≤ base
  hi : base ≤ W.heap.size
section
variable {w : World} {base n : Nat} {xs : List (Int × Int)} {v : Value} {bs : List Nat} {ms : List Mp} {k : Nat} {u : Value} {cs : List Nat} {rs : List Mp}
theorem DmS.start {w1 W : World} (h : MkS w1 base xs n v bs ms W) (hb : Below w.heap.size w w1) (hbase : base = w1.heap.size) : DmS w base n xs v bs ms 0 (.slice none 0 0) [] [] W where
  st := h.own
  rt := ⟨rfl, Or.inl ⟨rfl, rfl⟩⟩
  all := by
    rw [List.append_nil]
    exact h.all.sub (fun k hk => by rcases hk with h | h; exact Or.inr h; cases h)
  mlen := h.len
  len := rfl
  isp := h.is
  is := fun i x hi => absurd hi (Nat.not_lt_zero _)
  bel := hb.trans (h.bel.mono hb.size)
  low := by rw [hbase]; exact hb.size
  hi := by rw [hbase]; exact h.bel.size
theorem DmS.call {W W' : World} (h : DmS w base n xs v bs ms k u cs rs W) (hb : Below W.heap.size W W') : DmS w base n xs v bs ms k u cs rs W' :=
  ⟨owns_below h.st hb, owns_below h.rt hb, h.all.call hb, h.mlen, h.len, h.isp, h.is, h.bel.trans (hb.mono h.bel.size), h.low, Nat.le_trans h.hi hb.size⟩
structure Dm1 (w : World) (base n : Nat) (xs : List (Int × Int)) (v : Value) (bs : List Nat) (ms : List Mp) (k : Nat) (u : Value) (cs : List Nat) (rs : List Mp) (x : Int × Int) (b : Nat) (W : World) : Prop where
  st : W.ownsRow base 34 1 v n (ptrs bs)
  rt : W.ownsRow base 32 1 u k (ptrs cs)
  all : Ms base (fun j => v.ownBlock = some j ∨ u.ownBlock = some j) (ms ++ (rs ++ [freshR x b])) W
  mlen : ms.length = n
  len : rs.length = k
  isp : ∀ i x, i < n → xs[i]? = some x → goodSp x = true ∧ ms[i]? = some (freshP x (bs.getD i 0))
  is : ∀ i x, i < k → xs[i]? = some x → rs[i]? = some (freshR x (cs.getD i 0))
  bel : Below w.heap.size w W
  low : w.heap.size ≤ base
  hi : base ≤ W.heap.size
theorem DmS.add {x : Int × Int} {W W' : World} {e : Ending} (h : DmS w base n xs v bs ms k u cs rs W) (hm : RMade (decide (x.1 = 2)) x.2.toNat W e W') : Dm1 w base n xs v bs ms k u cs rs x W.heap.size W' := by
  obtain ⟨_, h1, h2⟩ := hm
  refine ⟨owns_below h.st h2, owns_below h.rt h2, ?_, h.mlen, h.len, h.isp, h.is, h.bel.trans (h2.mono h.bel.size), h.low, Nat.le_trans h.hi h2.size⟩
  rw [← List.append_assoc]
  refine h.all.add h2 (freshR x W.heap.size) (h1 base h.hi) (fun k hk => ?_)
  rcases hk with e | e
  · rw [e]; exact Nat.le_refl _
  · cases e
theorem Dm1.call {x : Int × Int} {b : Nat} {W W' : World} (h : Dm1 w base n xs v bs ms k u cs rs x b W) (hb : Below W.heap.size W W') : Dm1 w base n xs v bs ms k u cs rs x b W' :=
  ⟨owns_below h.st hb, owns_below h.rt hb, h.all.call hb, h.mlen, h.len, h.isp, h.is, h.bel.trans (hb.mono h.bel.size), h.low, Nat.le_trans h.hi hb.size⟩
theorem Dm1.done {x : Int × Int} {b : Nat} {u' : Value} {W W' : World} (h : Dm1 w base n xs v bs ms k u cs rs x b W) (hx : xs[k]? = some x) (hg : W.grownBy W' u.ownBlock) (hl : u'.ownBlock = u.ownBlock ∨ u'.ownBlock = some W.heap.size) (hown : W'.ownsRow base 32 1 u' (k + 1) (ptrs cs ++ [.pointer (some ⟨b, 0, none⟩)])) :
    DmS w base n xs v bs ms (k + 1) u' (cs ++ [b]) (rs ++ [freshR x b]) W' := by
  have hbl : cs.length = k := by have := h.rt.1; rw [ptrs_length] at this; omega
  refine ⟨?_, by rw [ptrs_snoc]; exact hown, h.all.grow hg hl (fun k hk => (hown.lt k hk).2), h.mlen, by rw [List.length_append, h.len]; rfl, h.isp, fun i y hi hy => ?_, h.bel.grown hg h.bel.size (fun j hj => Nat.le_trans h.low (h.rt.lt j hj).1), h.low, Nat.le_trans h.hi hg.size⟩
  · refine h.st.kept hg ?_
    cases hv : v.ownBlock with
    | none => exact Or.inl rfl
    | some j => exact Or.inr (fun e => own_types h.st h.rt (by decide) hv e.symm)
  · by_cases e : i = k
    · subst e
      have hml := h.len
      rw [hx] at hy
      injection hy with hy
      subst hy
      rw [List.getElem?_append_right (by omega), h.len, Nat.sub_self, List.getD_eq_getElem?_getD, List.getElem?_append_right (by omega), hbl, Nat.sub_self]
      rfl
    · have g2 := h.is i y (by omega) hy
      rw [List.getElem?_append_left (by rw [h.len]; omega), g2]
      congr 2
      rw [List.getD_eq_getElem?_getD, List.getD_eq_getElem?_getD, List.getElem?_append_left (by omega)]
def dts (xs : List (Int × Int)) : List Dt := xs.map (fun x => ⟨decide (x.1 = 2), x.2.toNat, []⟩)
theorem dts_ok {xs : List (Int × Int)} (h : xs.all goodSp = true) : ∀ d ∈ dts xs, d.ok := by
  intro d hd
  obtain ⟨x, hx, rfl⟩ := List.mem_map.1 hd
  obtain ⟨_, h2, h3⟩ := of_decide_eq_true (List.all_eq_true.1 h x hx)
  refine ⟨Nat.zero_le _, ?_, ?_⟩
  · show 1 ≤ x.2.toNat
    omega
  · show x.2.toNat ≤ 8
    omega
theorem DmS.inv {W : World} (h : DmS w base n xs v bs ms n u cs rs W) (hl : xs.length = n) : Inv w base n v u bs cs (dts xs) (dts xs) W := by
  have hat : ∀ (i : Nat) (d : Dt), (dts xs)[i]? = some d → ∃ x, xs[i]? = some x ∧ d = ⟨decide (x.1 = 2), x.2.toNat, []⟩ ∧ i < n := by
    intro i d hd
    unfold dts at hd
    rw [List.getElem?_map] at hd
    obtain ⟨x, hx, rfl⟩ := Option.map_eq_some_iff.1 hd
    exact ⟨x, hx, rfl, by rw [← hl]; exact (List.getElem?_eq_some_iff.1 hx).1⟩
  refine ⟨ms ++ rs, ⟨h.all, h.st, h.rt, h.bel, h.low, h.hi⟩, by unfold dts; rw [List.length_map, hl], by unfold dts; rw [List.length_map, hl], fun i d hd => ?_, fun i d hd => ?_⟩
  · obtain ⟨x, hx, rfl, hi⟩ := hat i d hd
    refine ⟨.slice none 0 0, ?_⟩
    rw [List.getElem?_append_left (by rw [h.mlen]; exact hi), (h.isp i x hi hx).2]
    rfl
  · obtain ⟨x, hx, rfl, hi⟩ := hat i d hd
    refine ⟨.slice none 0 0, ?_⟩
    rw [List.getElem?_append_right (by rw [h.mlen]; omega), h.mlen, Nat.add_sub_cancel_left, h.is i x hi hx]
    rfl
end
end Go.Proofs.Ytkomehplcacbcaa
