/-
  Pages that a statement has gathered: rows of its own, appended to; which pages they are; pages turned round.
-/
import Derived.Test.YtlbadfeobpnlcaaHbuild
import Derived.Deep.AppendLies
namespace Go.Proofs.Ytlbadfeobpnlcaa
open Go.RowKit
open Hd (Head rightB pageH)

/-! ### plain mathematics -/
/-- the pages of the right ones -/
def pagesOf (hs : List Head) : List (List UInt8) := (hs.filter rightB).map pageH
theorem pagesOf_yes (hs : List Head) (k : Nat) (h : Head) (hk : hs[k]? = some h) (hr : rightB h = true) : pagesOf (hs.take (k + 1)) = pagesOf (hs.take k) ++ [pageH h] := by
  rw [take_more hs k h hk]
  unfold pagesOf
  rw [List.filter_append, List.map_append]
  simp [List.filter_cons, hr]
theorem pagesOf_no (hs : List Head) (k : Nat) (h : Head) (hk : hs[k]? = some h) (hr : rightB h = false) : pagesOf (hs.take (k + 1)) = pagesOf (hs.take k) := by
  rw [take_more hs k h hk]
  unfold pagesOf
  rw [List.filter_append, List.map_append]
  simp [List.filter_cons, hr]
theorem pagesOf_length (hs : List Head) : (pagesOf hs).length ≤ hs.length := by
  unfold pagesOf
  rw [List.length_map]
  exact List.length_filter_le _ _
theorem pagesOf_size (hs : List Head) : ∀ p ∈ pagesOf hs, p.length = 64 := by
  intro p hp
  obtain ⟨h, _, rfl⟩ := List.mem_map.1 hp
  exact Hd.pageH_length h
theorem pagesOf_whole (hs : List Head) (hok : ∀ h ∈ hs, 0 ≤ h.sum ∧ h.sum < 4294967296) : ∀ p ∈ pagesOf hs, Hd.wholeB p = true := by
  intro p hp
  obtain ⟨h, hh, rfl⟩ := List.mem_map.1 hp
  obtain ⟨h1, h2⟩ := List.mem_filter.1 hh
  exact Hd.whole_page h h2 (hok h h1).1 (hok h h1).2
/-- the pages, turned round by so many places -/
def turned (ps : List (List UInt8)) (t k : Nat) : List (List UInt8) := (List.range k).map fun i => ps.getD ((i + t) % ps.length) []
theorem turned_more (ps : List (List UInt8)) (t k : Nat) : turned ps t (k + 1) = turned ps t k ++ [ps.getD ((k + t) % ps.length) []] := by
  unfold turned
  rw [List.range_succ, List.map_append]; rfl
theorem turned_length (ps : List (List UInt8)) (t k : Nat) : (turned ps t k).length = k := by simp [turned]
theorem turned_mem (ps : List (List UInt8)) (t : Nat) (p : List UInt8) : p ∈ turned ps t ps.length ↔ p ∈ ps := by
  unfold turned
  rw [List.mem_map]
  constructor
  · rintro ⟨i, hi, rfl⟩
    have hi' : i < ps.length := List.mem_range.1 hi
    have hlt : (i + t) % ps.length < ps.length := Nat.mod_lt _ (by omega)
    rw [List.getD_eq_getElem?_getD, List.getElem?_eq_getElem hlt]
    exact List.getElem_mem hlt
  · intro hp
    obtain ⟨j, hj, rfl⟩ := List.getElem_of_mem hp
    have hm : 0 < ps.length := by omega
    refine ⟨(j + ps.length - t % ps.length) % ps.length, List.mem_range.2 (Nat.mod_lt _ hm), ?_⟩
    have hr : t % ps.length < ps.length := Nat.mod_lt _ hm
    have e : ((j + ps.length - t % ps.length) % ps.length + t) % ps.length = j := by
      rw [Nat.mod_add_mod]
      have h1 := Nat.mod_add_div t ps.length
      have h2 : j + ps.length - t % ps.length + t = j + ps.length * (t / ps.length + 1) := by
        rw [Nat.mul_add, Nat.mul_one]
        omega
      rw [h2, Nat.add_mul_mod_self_left, Nat.mod_eq_of_lt hj]
    rw [e, List.getD_eq_getElem?_getD, List.getElem?_eq_getElem hj]; rfl
theorem turned_next (ps : List (List UInt8)) (t : Nat) : Hd.nextN (turned ps t ps.length) = Hd.nextN ps := Hd.nextN_same _ _ (turned_mem ps t)
theorem turned_size (ps : List (List UInt8)) (hs : ∀ p ∈ ps, p.length = 64) (t k : Nat) (hm : 0 < ps.length) : ∀ p ∈ turned ps t k, p.length = 64 := by
  intro p hp
  unfold turned at hp
  obtain ⟨i, _, rfl⟩ := List.mem_map.1 hp
  have hlt : (i + t) % ps.length < ps.length := Nat.mod_lt _ hm
  rw [List.getD_eq_getElem?_getD, List.getElem?_eq_getElem hlt]
  exact hs _ (List.getElem_mem hlt)

/-! ### in memory -/
def flat (ps : List (List UInt8)) : List Value := (ps.map pageV).flatMap fun v => v.cells.toList
theorem flat_snoc (ps : List (List UInt8)) (p : List UInt8) : flat (ps ++ [p]) = flat ps ++ byteVals p := by
  unfold flat
  rw [List.map_append, List.flatMap_append]
  simp [pageV, Value.cells]
theorem flat_at (ps : List (List UInt8)) (hs : ∀ p ∈ ps, p.length = 64) (i j : Nat) (p : List UInt8) (hi : ps[i]? = some p) (hj : j < 64) : (flat ps)[i * 64 + j]? = (byteVals p)[j]? := by
  unfold flat
  rw [Great.flat_get (s := 64) (by omega) (ps.map pageV) (fun v hv => by
    obtain ⟨q, hq, rfl⟩ := List.mem_map.1 hv
    show (byteVals q).toArray.size = 64
    rw [List.size_toArray, byteVals_length, hs q hq]) (i * 64 + j)]
  have e1 : (i * 64 + j) / 64 = i := by omega
  have e2 : (i * 64 + j) % 64 = j := by omega
  rw [e1, e2, List.getElem?_map, hi]
  show (byteVals p).toArray[j]? = _
  rw [List.getElem?_toArray]
/-- pages of one's own -/
def OwnP (W : World) (base : Nat) (v : Value) (ps : List (List UInt8)) : Prop := W.ownsRow base 28 64 v ps.length (flat ps)
theorem grown_below {W W' : World} (hb : Below W.heap.size W W') : W.grownBy W' none := ⟨hb.os, hb.tape, hb.output, hb.size, fun k hk _ => hb.block k hk⟩
theorem OwnP.step {W W' : World} {base : Nat} {v : Value} {ps : List (List UInt8)} (h : OwnP W base v ps) (hb : Below W.heap.size W W') : OwnP W' base v ps := by
  refine World.ownsRow.kept h (grown_below hb) ?_
  cases hv : v.ownBlock with
  | none => exact Or.inl rfl
  | some g => exact Or.inr (fun e => by cases e)
theorem OwnP.form {W : World} {base : Nat} {v : Value} {ps : List (List UInt8)} (h : OwnP W base v ps) (hs : ∀ p ∈ ps, p.length = 64) (hsm : ps.length ≤ 1000) :
    ∃ A cap, v = .slice A ps.length cap ∧ PageRow W A ps.length ps ∧ (0 < ps.length → ∃ g, A = some ⟨g, 0, none⟩ ∧ base ≤ g ∧ g < W.heap.size) ∧ ps.length ≤ cap ∧ cap ≤ maxLen := by
  have hm : ps.length ≤ maxLen := by unfold maxLen; omega
  obtain ⟨hl, h'⟩ := h
  rcases h' with ⟨rfl, h0⟩ | ⟨g, cap, cur, rfl, hb, hg, hc, hcm, hcs, ht⟩
  · exact ⟨none, 0, by rw [h0], ⟨rfl, hm, hs, fun hn => by omega⟩, fun hn => by omega, by omega, Nat.zero_le _⟩
  · have hlt : g < W.heap.size := by
      rcases Nat.lt_or_ge g W.heap.size with hlt | hge
      · exact hlt
      · rw [Array.getElem?_eq_none hge] at hg; cases hg
    have hown : W.ownsRow base 28 64 (.slice (some ⟨g, 0, none⟩) ps.length cap) ps.length (flat ps) := ⟨hl, Or.inr ⟨g, cap, cur, rfl, hb, hg, hc, hcm, hcs, ht⟩⟩
    refine ⟨some ⟨g, 0, none⟩, cap, rfl, ⟨rfl, hm, hs, fun hn => ⟨g, 0, rfl, hlt, fun i p hi j u hu => ?_⟩⟩, fun hn => ⟨g, rfl, hb, hlt⟩, hc, hcm⟩
    have hi' : i < ps.length := (List.getElem?_eq_some_iff.1 hi).1
    have hj : j < 64 := by
      have := (List.getElem?_eq_some_iff.1 hu).1
      rw [byteVals_length, hs p (List.mem_of_getElem? hi)] at this
      exact this
    have hc' := hown.cellAt (i * 64 + j) (by omega)
    rw [show 0 + i * 64 + j = i * 64 + j by omega, hc', flat_at ps hs i j p hi hj, hu]
theorem PageRow.take {W : World} {A : Option Addr} {n : Nat} {ps : List (List UInt8)} (h : PageRow W A n ps) (k : Nat) (hk : k ≤ n) : PageRow W A k (ps.take k) where
  len := by rw [List.length_take, h.len]; omega
  small := Nat.le_trans hk h.small
  size := fun p hp => h.size p (List.mem_of_mem_take hp)
  cells := fun hn => by
    obtain ⟨b, off, e, hlt, hc⟩ := h.cells (by omega)
    refine ⟨b, off, e, hlt, fun i p hi => hc i p ?_⟩
    rw [List.getElem?_take] at hi
    split at hi
    · exact hi
    · cases hi
/-- a page is appended -/
theorem wpList_append_page {ops : Array Oper} {rest : List Oper} {o : Oper} {a : Act} {Q : Exit → Act → World → Prop} {W : World} {base : Nat} {v : Value} {ps : List (List UInt8)} {p : List UInt8} {b : Nat} (hown : OwnP W base v ps) (hsm : ps.length ≤ 1000) (hp : p.length = 64) (hpg : PageAt W b p) (hbase : base ≤ W.heap.size)
    (hgd : o.guard = none) (s x : Operand) (ho : o.op = .call { callee := .builtin .append, args := #[s, x], argTypes := #[37, 37] }) (hs : a.eval s = v) (hx : a.eval x = .slice (some ⟨b, 0, none⟩) 1 1)
    (h : ∀ g cap w', OwnP w' base (.slice (some ⟨g, 0, none⟩) (ps.length + 1) cap) (ps ++ [p]) → W.grownBy w' v.ownBlock → (v.ownBlock = some g ∨ g = W.heap.size) → g < w'.heap.size → wpList Try.prog ops Q rest (a.put o.dst (.slice (some ⟨g, 0, none⟩) (ps.length + 1) cap)) w') :
    wpList Try.prog ops Q (o :: rest) a W := by
  obtain ⟨i, z, hi, hz, h64, hby, hzs⟩ := page_type
  refine wpList_append_lies W hgd s x 37 ho base 28 i z 64 64 Try.underlying37 hi hz h64 hby hzs (by omega) v ps.length (flat ps) hs hown ⟨b, 0, none⟩ 1 1 (byteVals p) hx (by rw [byteVals_length, hp])
    (fun j u hu => by rw [Addr.add_mid]; exact hpg.range j u hu) (byteVals_one p) (by omega) (by unfold maxLen; omega) (by omega) hbase W.heap.size rfl ?_
  intro g cap w' h1 h2 h3 h4
  refine h g cap w' ?_ h2 h3 h4
  unfold OwnP
  rw [flat_snoc, List.length_append, List.length_cons, List.length_nil]
  exact h1
theorem OwnP.kept {W W' : World} {base : Nat} {v : Value} {ps : List (List UInt8)} {row : Option Nat} (h : OwnP W base v ps) (hg : W.grownBy W' row) (hne : v.ownBlock = none ∨ v.ownBlock ≠ row) : OwnP W' base v ps := World.ownsRow.kept h hg hne
theorem OwnP.nil (W : World) (base : Nat) : OwnP W base (.slice none 0 0) [] := World.ownsRow_nil W base 28 64
theorem OwnP.base {W : World} {base : Nat} {v : Value} {ps : List (List UInt8)} (h : OwnP W base v ps) : ∀ k, v.ownBlock = some k → base ≤ k := fun k hk => (World.ownsRow.lt h k hk).1
theorem wpList_load_headat {t : TypeId} (ht : HeadT t) {ops : Array Oper} {rest : List Oper} {op : Oper} {a : Act} {Q : Exit → Act → World → Prop} {w : World} {b o : Nat} {h : Head} (hr : w.rangeAt b o (headVals h)) (hgd : op.guard = none) (x : Operand) (ho : op.op = .load t x)
    (hx : a.eval x = .pointer (some ⟨b, o, none⟩)) (hn : wpList Try.prog ops Q rest (a.put op.dst (headV h)) w) : wpList Try.prog ops Q (op :: rest) a w := by
  obtain ⟨d, hd, hrow⟩ := ht.row
  exact wpList_load_mid hgd t x ho b o hx (headVals h) d hr hd hrow ht.info hn
end Go.Proofs.Ytlbadfeobpnlcaa
