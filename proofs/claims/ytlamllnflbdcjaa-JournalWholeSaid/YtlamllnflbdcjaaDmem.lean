/-
  A disk in memory: rows of pages, a map of pages, the disk's own block; what stores leave of them; only some blocks have turned.
-/
import Derived.Test.YtlamllnflbdcjaaDpage
import Derived.Maps.OwnSet
import Derived.Maps.RangeWalk
namespace Go.Proofs.Ytlamllnflbdcjaa
open Go.RowKit Go.Maps Go.MapKept Go.ChangeMaps
open Dk (zeros zeros_length)

/-! ### only some blocks have turned -/
structure Only (l : List Nat) (w w' : World) : Prop where
  os : w'.os = w.os
  tape : w'.tape = w.tape
  output : w'.output = w.output
  size : w.heap.size ≤ w'.heap.size
  block : ∀ k, k < w.heap.size → k ∉ l → w'.heap[k]? = w.heap[k]?
theorem Only.refl (l : List Nat) (w : World) : Only l w w := ⟨rfl, rfl, rfl, Nat.le_refl _, fun _ _ _ => rfl⟩
theorem Only.trans {l : List Nat} {a b c : World} (h : Only l a b) (k : Only l b c) : Only l a c :=
  ⟨k.os.trans h.os, k.tape.trans h.tape, k.output.trans h.output, Nat.le_trans h.size k.size, fun i hi hn => (k.block i (Nat.lt_of_lt_of_le hi h.size) hn).trans (h.block i hi hn)⟩
theorem Only.mono {l l' : List Nat} {w w' : World} (h : Only l w w') (hl : ∀ k ∈ l, k ∈ l') : Only l' w w' := ⟨h.os, h.tape, h.output, h.size, fun k hk hn => h.block k hk (fun e => hn (hl k e))⟩
theorem Only.drew {l : List Nat} {a w : World} (h : Only l a w) : Only l a w.drew := ⟨h.os, h.tape, h.output, h.size, h.block⟩
theorem Only.drewN {l : List Nat} {a w : World} (h : Only l a w) (n : Nat) : Only l a (w.drewN n) := ⟨h.os, h.tape, h.output, h.size, h.block⟩
theorem Only.alloc {l : List Nat} {a w : World} (h : Only l a w) (o : Obj) : Only l a (w.alloc o) :=
  h.trans ⟨rfl, rfl, rfl, by simp, fun k hk _ => Below.heap_alloc _ _ _ hk⟩
theorem Only.setCell {l : List Nat} {a w : World} (h : Only l a w) {p : Addr} (hp : p.block ∈ l) (u : Value) : Only l a (w.setCell p u) :=
  h.trans ⟨rfl, rfl, rfl, by simp [World.setCell], fun k _ hn => Below.heap_setCell _ _ _ _ (fun e => hn (e ▸ hp))⟩
theorem Only.setCells {l : List Nat} {a : World} (b : Nat) (hb : b ∈ l) : ∀ (vs : List Value) (o : Nat) (w : World), Only l a w → Only l a (w.setCells b o vs)
  | [], _, _, h => h
  | v :: r, o, w, h => by
    rw [World.setCells]
    exact Only.setCells b hb r (o + 1) _ (h.setCell (by exact hb) v)
theorem Only.below {l : List Nat} {w w' : World} (h : Below w.heap.size w w') : Only l w w' := ⟨h.os, h.tape, h.output, h.size, fun k hk _ => h.block k hk⟩
theorem Only.ofBelow {l : List Nat} {a w w' : World} (h : Only l a w) (k : Below w.heap.size w w') : Only l a w' := h.trans (Only.below k)
theorem Only.grown {l : List Nat} {w w' : World} {b : Nat} (h : w.grownBy w' (some b)) (hb : b ∈ l) : Only l w w' :=
  ⟨h.os, h.tape, h.output, h.size, fun k hk hn => h.block k hk (fun e => by injection e with e; exact hn (e ▸ hb))⟩
theorem Only.grownNone {l : List Nat} {w w' : World} (h : w.grownBy w' none) : Only l w w' :=
  ⟨h.os, h.tape, h.output, h.size, fun k hk _ => h.block k hk (fun e => by cases e)⟩
theorem Only.toBelow {l : List Nat} {B : Nat} {w w' : World} (h : Only l w w') (hB : B ≤ w.heap.size) (hl : ∀ k ∈ l, B ≤ k) : Below B w w' :=
  ⟨h.os, h.tape, h.output, h.size, fun k hk => h.block k (by omega) (fun e => by have := hl k e; omega)⟩
theorem Only.toBelowOld {l : List Nat} {B : Nat} {a w w' : World} (h0 : Below B a w) (h : Only l w w') (hB : B ≤ w.heap.size) (hl : ∀ k ∈ l, B ≤ k) : Below B a w' := h0.trans (h.toBelow hB hl)
theorem Only.cell {l : List Nat} {w w' : World} (h : Only l w w') {p : Addr} (hp : p.block < w.heap.size) (hn : p.block ∉ l) : w'.cell? p = w.cell? p := World.cell?_of_block (w := w) (h.block _ hp hn)
theorem Only.frozen {l : List Nat} {w w' : World} (h : Only l w w') {p : Addr} (hp : p.block < w.heap.size) (hn : p.block ∉ l) : w'.frozen? p = w.frozen? p := World.frozen?_of_block (w := w) (h.block _ hp hn)

theorem rangeAt_block {w w' : World} {b o : Nat} {cs : List Value} (h : w.rangeAt b o cs) (hb : w'.heap[b]? = w.heap[b]?) : w'.rangeAt b o cs := fun j v hv => (World.cell?_of_block (w := w) (a := ⟨b, o + j, none⟩) hb).trans (h j v hv)
theorem there_block {w w' : World} {b o n : Nat} (h : w.there b o n) (hb : w'.heap[b]? = w.heap[b]?) : w'.there b o n := fun j hj => by
  rw [World.cell?_of_block (w := w) (a := ⟨b, o + j, none⟩) hb, World.frozen?_of_block (w := w) (a := ⟨b, o + j, none⟩) hb]; exact h j hj
theorem heap_setCells_other (b : Nat) : ∀ (vs : List Value) (o : Nat) (w : World) (k : Nat), k ≠ b → (w.setCells b o vs).heap[k]? = w.heap[k]?
  | [], _, _, _, _ => rfl
  | v :: r, o, w, k, hk => by
    rw [World.setCells, heap_setCells_other b r (o + 1) _ k hk]
    exact Below.heap_setCell _ _ _ _ hk

/-! ### a row of pages, from a block's head on, that may be written -/
structure RowsAt (w : World) (b : Nat) (ps : List (List UInt8)) : Prop where
  size : ∀ p ∈ ps, p.length = 64
  range : ∀ i p, ps[i]? = some p → w.rangeAt b (i * 64) (byteVals p)
  free : w.there b 0 (ps.length * 64)
theorem RowsAt.block {w w' : World} {b : Nat} {ps : List (List UInt8)} (h : RowsAt w b ps) (hb : w'.heap[b]? = w.heap[b]?) : RowsAt w' b ps :=
  ⟨h.size, fun i p hp => rangeAt_block (h.range i p hp) hb, there_block h.free hb⟩
theorem RowsAt.at {w : World} {b : Nat} {ps : List (List UInt8)} (h : RowsAt w b ps) (i : Nat) (hi : i < ps.length) : w.rangeAt b (i * 64) (byteVals (ps.getD i [])) := by
  refine h.range i _ ?_
  rw [List.getD_eq_getElem?_getD, List.getElem?_eq_getElem hi]; rfl
theorem RowsAt.thereAt {w : World} {b : Nat} {ps : List (List UInt8)} (h : RowsAt w b ps) (i : Nat) (hi : i < ps.length) : w.there b (i * 64) 64 := fun j hj => by
  have := h.free (i * 64 + j) (by have : (i + 1) * 64 ≤ ps.length * 64 := Nat.mul_le_mul_right _ hi; omega)
  rwa [Nat.zero_add] at this
theorem RowsAt.lt {w : World} {b : Nat} {ps : List (List UInt8)} (h : RowsAt w b ps) (h0 : 0 < ps.length) : b < w.heap.size := by
  have := (h.free 0 (by omega)).1
  cases hc : w.cell? ⟨b, 0 + 0, none⟩ with
  | none => rw [hc] at this; cases this
  | some v => exact World.block_lt_of_cell? w _ hc
theorem RowsAt.put {w : World} {b : Nat} {ps : List (List UInt8)} (h : RowsAt w b ps) (i : Nat) (hi : i < ps.length) (p : List UInt8) (hp : p.length = 64) : RowsAt (w.setCells b (i * 64) (byteVals p)) b (ps.set i p) where
  size := fun q hq => by
    rcases List.mem_or_eq_of_mem_set hq with h1 | h1
    · exact h.size q h1
    · rw [h1]; exact hp
  range := fun j q hq => by
    rw [List.getElem?_set] at hq
    by_cases e : i = j
    · subst e
      rw [if_pos rfl, if_pos hi] at hq
      injection hq with hq
      subst hq
      exact World.rangeAt_setCells_same _ _ _ _ (by rw [byteVals_length, hp]; exact h.thereAt i hi)
    · rw [if_neg e] at hq
      have hql : q.length = 64 := h.size q (List.mem_of_getElem? hq)
      refine World.rangeAt_setCells_apart (h.range j q hq) _ _ _ (Or.inr ?_)
      rw [byteVals_length, byteVals_length, hp, hql]
      rcases Nat.lt_or_gt_of_ne e with g | g
      · have : (i + 1) * 64 ≤ j * 64 := Nat.mul_le_mul_right _ g; omega
      · have : (j + 1) * 64 ≤ i * 64 := Nat.mul_le_mul_right _ g; omega
  free := by rw [List.length_set]; exact World.there_setCells h.free _ _ _
theorem made_zero (N : Nat) : madeCells (Value.agg zeroCells).cells N = (byteVals (List.replicate N 0)).toArray := by
  apply Array.ext'
  have hz : ∀ i, i < 64 → (zeroCells : Array Value)[i]! = .int .u8 0 := fun i hi => by
    have h1 : zeroCells[i]? = some (.int .u8 0) := by
      unfold zeroCells
      rw [List.getElem?_toArray, byteVals_at zeros i (by rw [zeros_length]; exact hi)]
      have h2 : ∀ (j : Nat) (hj : j < zeros.length), zeros[j] = 0 := fun j hj => List.getElem_replicate ..
      rw [h2]; rfl
    rw [getElem!_def, h1]
  have hs : (Value.agg zeroCells).cells = zeroCells := rfl
  have hsz : zeroCells.size = 64 := rfl
  rw [hs]
  unfold madeCells
  rw [hsz, Array.toList_map, Array.toList_range]
  unfold byteVals
  rw [List.map_replicate]
  apply List.ext_getElem
  · simp
  · intro i h1 h2
    simp only [List.getElem_map, List.getElem_range, List.getElem_replicate]
    exact hz _ (Nat.mod_lt _ (by omega))
theorem info_page : (Try.prog.info? 31).map (fun i => (i.zero, i.size, i.bytes)) = some (some (.agg zeroCells), 64, 64) := by kernel_rfl
/-- the cells of so many pages of zeros -/
def zeroRow (n : Nat) : Array Value := (byteVals (List.replicate (n * 64) 0)).toArray
theorem run_make_pages (w : World) (n : Nat) (hn : n ≤ 1000) : (Instr.makeSlice 54 (.int .i64 (n : Int)) (.int .i64 (n : Int))).run Try.prog w = .ok (.slice (some ⟨w.heap.size, 0, none⟩) n n) (w.alloc (.cells (zeroRow n) 31)) := by
  obtain ⟨i, hi, hz, hs, hb⟩ := info_parts info_page
  have := run_make (P := Try.prog) w 54 31 i (.agg zeroCells) Try.underlying54 hi hz .i64 .i64 (n : Int) (n : Int) (by omega) (by omega) (by rw [hb]; omega) (by omega)
  rw [hs, Int.toNat_natCast, made_zero] at this
  exact this
theorem rowsAt_new (w : World) (n : Nat) (t : TypeId) : RowsAt (w.alloc (.cells (zeroRow n) t)) w.heap.size (List.replicate n zeros) where
  size := fun p hp => by rw [List.eq_of_mem_replicate hp]; exact zeros_length
  range := fun i p hp => by
    have hi : i < n := by
      have := (List.getElem?_eq_some_iff.1 hp).1
      simpa using this
    have hp' : p = zeros := List.eq_of_mem_replicate (List.mem_of_getElem? hp)
    subst hp'
    intro j v hv
    rw [World.cell?_alloc_mark]
    have hj : j < 64 := by
      have := (List.getElem?_eq_some_iff.1 hv).1
      rw [byteVals_length, zeros_length] at this; exact this
    have hk : i * 64 + j < n * 64 := by have : (i + 1) * 64 ≤ n * 64 := Nat.mul_le_mul_right _ hi; omega
    have hz0 : ∀ (k : Nat) (hk : k < zeros.length), zeros[k] = 0 := fun k hk => List.getElem_replicate ..
    rw [byteVals_at zeros j (by rw [zeros_length]; exact hj), hz0] at hv
    unfold zeroRow
    rw [List.getElem?_toArray, byteVals_at _ _ (by rw [List.length_replicate]; exact hk), List.getElem_replicate]
    exact hv
  free := there_new w _ t _ (by unfold zeroRow; rw [List.size_toArray, byteVals_length]; simp)

/-! ### a map of pages -/
open Classical in
noncomputable def pageR (v : Value) : Option (DataW (List UInt8) × List MemPlace) :=
  if h : ∃ p : List UInt8, p.length = 64 ∧ v = pageV p then some (.held h.choose, []) else none
theorem pageV_inj {p q : List UInt8} (h : pageV p = pageV q) : p = q := by
  unfold pageV at h
  injection h with h
  exact byteVals_inj p q (by simpa using congrArg Array.toList h)
theorem pageR_mk {p : List UInt8} (hp : p.length = 64) : pageR (pageV p) = some (.held p, []) := by
  unfold pageR
  have hex : ∃ q : List UInt8, q.length = 64 ∧ pageV p = pageV q := ⟨p, hp, rfl⟩
  rw [dif_pos hex]
  have := pageV_inj hex.choose_spec.2
  rw [← this]
theorem pageR_inv {v : Value} {z : DataW (List UInt8) × List MemPlace} (h : pageR v = some z) : ∃ p : List UInt8, p.length = 64 ∧ v = pageV p ∧ z = (.held p, []) := by
  unfold pageR at h
  split at h
  · rename_i hex
    injection h with h
    exact ⟨_, hex.choose_spec.1, hex.choose_spec.2, h.symm⟩
  · cases h
/-- what a map of pages holds, by its keys from 0 on -/
structure MapIs (D : DataW (List UInt8)) (c : List (Option (List UInt8))) : Prop where
  has : ∀ i : Int, Maps.has D (.int .i64 i) = (decide (0 ≤ i) && (c.getD i.toNat none).isSome)
  held : ∀ (i : Nat) p, c.getD i none = some p → ∀ z, D.atKey (.int .i64 (i : Int)) z = .held p
  size : Maps.size D = c.countP (·.isSome)
def MapAt (w : World) (b : Nat) (c : List (Option (List UInt8))) : Prop := ∃ D, w.ownsMap Try.prog 3 pageR b (Maps.size D) D ∧ MapIs D c
theorem keyLaw : Keyed Try.prog 3 := int_keyed Try.underlying3
theorem zeroPage (w : World) : (zeroValue 31).run Try.prog w = .ok (pageV zeros) w := by kernel_rfl
theorem wf_i64 {i : Int} (h1 : -9223372036854775808 ≤ i) (h2 : i ≤ 9223372036854775807) : (Lit.int .i64 i).wf = true := WalkArith.wf_i64 (by omega)
theorem MapAt.block {w w' : World} {b : Nat} {c : List (Option (List UInt8))} (h : MapAt w b c) (hb : w'.heap[b]? = w.heap[b]?) : MapAt w' b c := by
  obtain ⟨D, ⟨es, clock, h1, h2⟩, h3⟩ := h
  exact ⟨D, ⟨es, clock, hb.trans h1, h2⟩, h3⟩
theorem MapAt.lt {w : World} {b : Nat} {c : List (Option (List UInt8))} (h : MapAt w b c) : b < w.heap.size := by
  obtain ⟨D, h1, _⟩ := h
  exact h1.lt
theorem tight {w : World} {b n : Nat} {D : DataW (List UInt8)} (h : w.ownsMap Try.prog 3 pageR b n D) : w.ownsMap Try.prog 3 pageR b (Maps.size D) D := by
  obtain ⟨es, clock, hb, F, hs, rfl⟩ := h
  exact ⟨es, clock, hb, F, by simp [Maps.size, length_sorted], rfl⟩
theorem mapAt_made (w : World) (n : Nat) : MapAt (w.alloc (.map #[] 0)) w.heap.size (List.replicate n none) := by
  refine ⟨.map [], World.ownsMap_made _ _ _ _, ?_, ?_, ?_⟩
  · intro i
    rw [has_eq]
    simp [List.getElem?_replicate]
    split <;> simp
  · intro i p hp
    rw [List.getD_eq_getElem?_getD, List.getElem?_replicate] at hp
    split at hp <;> cases hp
  · simp [Maps.size, List.countP_replicate]
theorem MapAt.value {D : DataW (List UInt8)} {c : List (Option (List UInt8))} (h3 : MapIs D c) (i : Nat) {v : Value} {ps : List MemPlace} (hv : pageR v = some (D.atKey (.int .i64 (i : Int)) (.held zeros), ps)) : v = pageV ((c.getD i none).getD zeros) := by
  obtain ⟨p, _, rfl, e⟩ := pageR_inv hv
  injection e with e _
  cases hc : c.getD i none with
  | none =>
    have hh : Maps.has D (.int .i64 (i : Int)) = false := by rw [h3.has, Int.toNat_natCast, hc]; simp
    rw [atKey_of_not_has hh] at e
    injection e with e
    rw [← e]; rfl
  | some q =>
    rw [h3.held i q hc] at e
    injection e with e
    rw [← e]; rfl
theorem MapAt.look {w : World} {b : Nat} {c : List (Option (List UInt8))} (h : MapAt w b c) (i : Nat) (hi : i ≤ 1000) :
    (Instr.lookup 55 (.map (some b)) (.int .i64 (i : Int)) true).run Try.prog w = .ok (.tuple #[pageV ((c.getD i none).getD zeros), .bool (c.getD i none).isSome]) w := by
  obtain ⟨D, h1, h3⟩ := h
  obtain ⟨v, ps, hrun, hv⟩ := h1.look_ok (t := 55) (e := 31) keyLaw Try.underlying55 (zeroPage w) (pageR_mk zeros_length) (key := .int .i64 (i : Int)) (keyOf_int_mk Try.underlying3 (wf_i64 (by omega) (by omega)))
  rw [hrun, MapAt.value h3 i hv, h3.has, Int.toNat_natCast]
  simp
theorem MapAt.look1 {w : World} {b : Nat} {c : List (Option (List UInt8))} (h : MapAt w b c) (i : Nat) (hi : i ≤ 1000) :
    (Instr.lookup 55 (.map (some b)) (.int .i64 (i : Int)) false).run Try.prog w = .ok (pageV ((c.getD i none).getD zeros)) w := by
  obtain ⟨D, h1, h3⟩ := h
  obtain ⟨v, ps, hrun, hv⟩ := h1.lookup (t := 55) (e := 31) keyLaw Try.underlying55 (zeroPage w) (pageR_mk zeros_length) (key := .int .i64 (i : Int)) (keyOf_int_mk Try.underlying3 (wf_i64 (by omega) (by omega)))
  rw [hrun, MapAt.value h3 i hv]
theorem MapAt.len {w : World} {b : Nat} {c : List (Option (List UInt8))} (h : MapAt w b c) (ty : TypeId) : (Builtin.len_ #[55] ty #[.map (some b)]).run Try.prog w = .ok (.int .i64 (c.countP (·.isSome) : Nat)) w := by
  obtain ⟨D, h1, h3⟩ := h
  rw [h1.len Try.underlying55, h3.size]
theorem count_set (c : List (Option (List UInt8))) : ∀ (i : Nat) (p : List UInt8), i < c.length → (c.set i (some p)).countP (·.isSome) = if (c.getD i none).isSome then c.countP (·.isSome) else c.countP (·.isSome) + 1 := by
  induction c with
  | nil => intro i p hi; simp at hi
  | cons a c ih =>
    intro i p hi
    cases i with
    | zero =>
      cases a <;> simp
    | succ i =>
      rw [List.set_cons_succ, List.countP_cons, List.countP_cons, ih i p (by simpa using hi)]
      simp only [List.getD_cons_succ]
      split <;> omega
theorem MapAt.store {w : World} {b : Nat} {c : List (Option (List UInt8))} (h : MapAt w b c) (i : Nat) (hi : i < c.length) (hc : c.length ≤ 1000) {p : List UInt8} (hp : p.length = 64) :
    ∃ w', (Instr.mapUpdate 55 (.map (some b)) (.int .i64 (i : Int)) (pageV p)).run Try.prog w = .ok () w' ∧ MapAt w' b (c.set i (some p)) ∧ w.mapTurned w' b := by
  obtain ⟨D, h1, h3⟩ := h
  have hsz : Maps.size D ≤ c.length := by rw [h3.size]; exact List.countP_le_length
  obtain ⟨w', hrun, hown, hturn⟩ := h1.store (t := 55) (e := 31) keyLaw Try.underlying55 (by unfold maxLen; omega) (key := .int .i64 (i : Int)) (val := pageV p) (keyOf_int_mk Try.underlying3 (wf_i64 (by omega) (by omega))) (pageR_mk hp)
  refine ⟨w', hrun, ⟨_, tight hown, ?_, ?_, ?_⟩, hturn⟩
  · intro j
    by_cases e : j = (i : Int)
    · subst e
      rw [has_put_same (k := .int .i64 (i : Int)) h1.isMap trivial, Int.toNat_natCast, List.getD_eq_getElem?_getD, List.getElem?_set_self hi]
      simp
    · rw [has_put_other (fun q => e (by injection q)), h3.has]
      by_cases hj : 0 ≤ j
      · have : i ≠ j.toNat := by omega
        rw [List.getD_eq_getElem?_getD, List.getD_eq_getElem?_getD, List.getElem?_set_ne this]
      · simp [hj]
  · intro j q hq z
    by_cases e : i = j
    · subst e
      rw [List.getD_eq_getElem?_getD, List.getElem?_set_self hi] at hq
      have hq' : p = q := by simpa using hq
      rw [atKey_put_same (k := .int .i64 (i : Int)) h1.isMap trivial, hq']
    · rw [List.getD_eq_getElem?_getD, List.getElem?_set_ne e, ← List.getD_eq_getElem?_getD] at hq
      rw [atKey_put_other (fun k => e (Int.ofNat_inj.1 (Lit.int.inj k).2.symm))]
      exact h3.held j q hq z
  · rw [size_put (h1.tidy keyLaw), h3.has, Int.toNat_natCast, count_set c i p hi, h3.size]
    simp
theorem MapAt.clear {w : World} {b : Nat} {c : List (Option (List UInt8))} (h : MapAt w b c) (n : Nat) (ty : TypeId) :
    ∃ w', (Builtin.clear_ #[55] ty #[.map (some b)]).run Try.prog w = .ok (.tuple #[]) w' ∧ MapAt w' b (List.replicate n none) ∧ w.mapTurned w' b := by
  obtain ⟨D, ⟨es, clock, hb, F, hs, hD⟩, h3⟩ := h
  have hrun : (Builtin.clear_ #[55] ty #[.map (some b)]).run Try.prog w = .ok (.tuple #[]) (setBlock w b (.map #[] clock)) := by
    simp [Builtin.clear_, run_underlying Try.underlying55, MapKept.run_getObj_map hb, MapKept.run_setObj_map _ hb, Result.andThen]
    rfl
  refine ⟨_, hrun, ?_, ⟨es, clock, #[], clock, hb, rfl⟩⟩
  obtain ⟨D0, _, h0⟩ := mapAt_made w n
  refine ⟨.map [], ⟨#[], clock, heap_setBlock_same hb _, ⟨by unfold maxLen; simp, (stamped_iff _ _).2 ⟨by simp, by simp, by simp⟩, by simp⟩, by simp, rfl⟩, ?_⟩
  refine ⟨?_, ?_, ?_⟩
  · intro i
    rw [has_eq]
    simp [List.getElem?_replicate]
    split <;> simp
  · intro i p hp
    rw [List.getD_eq_getElem?_getD, List.getElem?_replicate] at hp
    split at hp <;> cases hp
  · simp [Maps.size, List.countP_replicate]

/-! ### a disk -/
structure DiskAt (w : World) (d l m : Nat) (s : Dk.St) : Prop where
  ok : s.Ok
  dl : d ≠ l
  dm : d ≠ m
  lm : l ≠ m
  c0 : w.cell? ⟨d, 0, none⟩ = some (.bool s.lim)
  c1 : w.cell? ⟨d, 1, none⟩ = some (.int .i64 s.left)
  c2 : w.cell? ⟨d, 2, none⟩ = some (.bool s.down)
  c3 : w.cell? ⟨d, 3, none⟩ = some (.slice (some ⟨l, 0, none⟩) s.last.length s.last.length)
  c4 : w.cell? ⟨d, 4, none⟩ = some (.map (some m))
  f0 : w.frozen? ⟨d, 0, none⟩ = false
  f1 : w.frozen? ⟨d, 1, none⟩ = false
  f2 : w.frozen? ⟨d, 2, none⟩ = false
  rows : RowsAt w l s.last
  map : MapAt w m s.cache
theorem DiskAt.blocks {w w' : World} {d l m : Nat} {s : Dk.St} (h : DiskAt w d l m s) (hd : w'.heap[d]? = w.heap[d]?) (hl : w'.heap[l]? = w.heap[l]?) (hm : w'.heap[m]? = w.heap[m]?) : DiskAt w' d l m s where
  ok := h.ok
  dl := h.dl
  dm := h.dm
  lm := h.lm
  c0 := (World.cell?_of_block (w := w) (a := ⟨d, 0, none⟩) hd).trans h.c0
  c1 := (World.cell?_of_block (w := w) (a := ⟨d, 1, none⟩) hd).trans h.c1
  c2 := (World.cell?_of_block (w := w) (a := ⟨d, 2, none⟩) hd).trans h.c2
  c3 := (World.cell?_of_block (w := w) (a := ⟨d, 3, none⟩) hd).trans h.c3
  c4 := (World.cell?_of_block (w := w) (a := ⟨d, 4, none⟩) hd).trans h.c4
  f0 := (World.frozen?_of_block (w := w) (a := ⟨d, 0, none⟩) hd).trans h.f0
  f1 := (World.frozen?_of_block (w := w) (a := ⟨d, 1, none⟩) hd).trans h.f1
  f2 := (World.frozen?_of_block (w := w) (a := ⟨d, 2, none⟩) hd).trans h.f2
  rows := h.rows.block hl
  map := h.map.block hm
theorem DiskAt.dlt {w : World} {d l m : Nat} {s : Dk.St} (h : DiskAt w d l m s) : d < w.heap.size := World.block_lt_of_cell? w _ h.c0
theorem DiskAt.llt {w : World} {d l m : Nat} {s : Dk.St} (h : DiskAt w d l m s) : l < w.heap.size := h.rows.lt h.ok.pos
theorem DiskAt.mlt {w : World} {d l m : Nat} {s : Dk.St} (h : DiskAt w d l m s) : m < w.heap.size := h.map.lt
theorem DiskAt.only {w w' : World} {d l m : Nat} {s : Dk.St} {L : List Nat} (h : DiskAt w d l m s) (ho : Only L w w') (hd : d ∉ L) (hl : l ∉ L) (hm : m ∉ L) : DiskAt w' d l m s :=
  h.blocks (ho.block d h.dlt hd) (ho.block l h.llt hl) (ho.block m h.mlt hm)
theorem DiskAt.below {w w' : World} {d l m : Nat} {s : Dk.St} (h : DiskAt w d l m s) (hb : Below w.heap.size w w') : DiskAt w' d l m s :=
  h.only (L := []) (Only.below hb) (by simp) (by simp) (by simp)
theorem DiskAt.alloc {w : World} {d l m : Nat} {s : Dk.St} (h : DiskAt w d l m s) (o : Obj) : DiskAt (w.alloc o) d l m s := h.below ((Below.refl _ _).alloc (Nat.le_refl _) _)
theorem DiskAt.drew {w : World} {d l m : Nat} {s : Dk.St} (h : DiskAt w d l m s) : DiskAt w.drew d l m s := h.blocks rfl rfl rfl
theorem DiskAt.drewN {w : World} {d l m : Nat} {s : Dk.St} (h : DiskAt w d l m s) (n : Nat) : DiskAt (w.drewN n) d l m s := h.blocks rfl rfl rfl
/-- the disk's own block is written -/
theorem DiskAt.setDown {w : World} {d l m : Nat} {s : Dk.St} (h : DiskAt w d l m s) (b : Bool) : DiskAt (w.setCell ⟨d, 2, none⟩ (.bool b)) d l m { s with down := b } where
  ok := ⟨h.ok.same, h.ok.pos, h.ok.small, h.ok.pages, h.ok.cpages, h.ok.lo, h.ok.hi, h.ok.live⟩
  dl := h.dl
  dm := h.dm
  lm := h.lm
  c0 := by rw [World.cell?_setCell_other _ _ _ _ (fun q => by injection q with _ q; omega)]; exact h.c0
  c1 := by rw [World.cell?_setCell_other _ _ _ _ (fun q => by injection q with _ q; omega)]; exact h.c1
  c2 := World.cell?_setCell_same' _ _ _ (by rw [h.c2]; rfl)
  c3 := by rw [World.cell?_setCell_other _ _ _ _ (fun q => by injection q with _ q; omega)]; exact h.c3
  c4 := by rw [World.cell?_setCell_other _ _ _ _ (fun q => by injection q with _ q; omega)]; exact h.c4
  f0 := by rw [World.frozen?_setCell]; exact h.f0
  f1 := by rw [World.frozen?_setCell]; exact h.f1
  f2 := by rw [World.frozen?_setCell]; exact h.f2
  rows := h.rows.block (Below.heap_setCell _ _ _ _ (Ne.symm h.dl))
  map := h.map.block (Below.heap_setCell _ _ _ _ (Ne.symm h.dm))
theorem DiskAt.setLeft {w : World} {d l m : Nat} {s : Dk.St} (h : DiskAt w d l m s) (x : Int) (hok : Dk.St.Ok { s with left := x }) : DiskAt (w.setCell ⟨d, 1, none⟩ (.int .i64 x)) d l m { s with left := x } where
  ok := hok
  dl := h.dl
  dm := h.dm
  lm := h.lm
  c0 := by rw [World.cell?_setCell_other _ _ _ _ (fun q => by injection q with _ q; omega)]; exact h.c0
  c1 := World.cell?_setCell_same' _ _ _ (by rw [h.c1]; rfl)
  c2 := by rw [World.cell?_setCell_other _ _ _ _ (fun q => by injection q with _ q; omega)]; exact h.c2
  c3 := by rw [World.cell?_setCell_other _ _ _ _ (fun q => by injection q with _ q; omega)]; exact h.c3
  c4 := by rw [World.cell?_setCell_other _ _ _ _ (fun q => by injection q with _ q; omega)]; exact h.c4
  f0 := by rw [World.frozen?_setCell]; exact h.f0
  f1 := by rw [World.frozen?_setCell]; exact h.f1
  f2 := by rw [World.frozen?_setCell]; exact h.f2
  rows := h.rows.block (Below.heap_setCell _ _ _ _ (Ne.symm h.dl))
  map := h.map.block (Below.heap_setCell _ _ _ _ (Ne.symm h.dm))
/-- both of the fuse's cells -/
theorem DiskAt.setFuse {w : World} {d l m : Nat} {s : Dk.St} (h : DiskAt w d l m s) (b : Bool) (x : Int) (hok : Dk.St.Ok { s with lim := b, left := x }) :
    DiskAt ((w.setCell ⟨d, 0, none⟩ (.bool b)).setCell ⟨d, 1, none⟩ (.int .i64 x)) d l m { s with lim := b, left := x } where
  ok := hok
  dl := h.dl
  dm := h.dm
  lm := h.lm
  c0 := by rw [World.cell?_setCell_other _ _ _ _ (fun q => by injection q with _ q; omega)]; exact World.cell?_setCell_same' _ _ _ (by rw [h.c0]; rfl)
  c1 := World.cell?_setCell_same' _ _ _ (by rw [World.cell?_setCell_other _ _ _ _ (fun q => by injection q with _ q; omega), h.c1]; rfl)
  c2 := by rw [World.cell?_setCell_other _ _ _ _ (fun q => by injection q with _ q; omega), World.cell?_setCell_other _ _ _ _ (fun q => by injection q with _ q; omega)]; exact h.c2
  c3 := by rw [World.cell?_setCell_other _ _ _ _ (fun q => by injection q with _ q; omega), World.cell?_setCell_other _ _ _ _ (fun q => by injection q with _ q; omega)]; exact h.c3
  c4 := by rw [World.cell?_setCell_other _ _ _ _ (fun q => by injection q with _ q; omega), World.cell?_setCell_other _ _ _ _ (fun q => by injection q with _ q; omega)]; exact h.c4
  f0 := by rw [World.frozen?_setCell, World.frozen?_setCell]; exact h.f0
  f1 := by rw [World.frozen?_setCell, World.frozen?_setCell]; exact h.f1
  f2 := by rw [World.frozen?_setCell, World.frozen?_setCell]; exact h.f2
  rows := h.rows.block ((Below.heap_setCell _ _ _ _ (Ne.symm h.dl)).trans (Below.heap_setCell _ _ _ _ (Ne.symm h.dl)))
  map := h.map.block ((Below.heap_setCell _ _ _ _ (Ne.symm h.dm)).trans (Below.heap_setCell _ _ _ _ (Ne.symm h.dm)))
/-- the map is another one -/
theorem DiskAt.setMap {w w' : World} {d l m : Nat} {s : Dk.St} (h : DiskAt w d l m s) (hg : w.grownBy w' (some m)) {c : List (Option (List UInt8))} (hm : MapAt w' m c) (hok : Dk.St.Ok { s with cache := c }) : DiskAt w' d l m { s with cache := c } := by
  have hd := hg.block d h.dlt (fun e => h.dm (by injection e))
  have hl := hg.block l h.llt (fun e => h.lm (by injection e))
  exact { ok := hok, dl := h.dl, dm := h.dm, lm := h.lm
          c0 := (World.cell?_of_block (w := w) (a := ⟨d, 0, none⟩) hd).trans h.c0
          c1 := (World.cell?_of_block (w := w) (a := ⟨d, 1, none⟩) hd).trans h.c1
          c2 := (World.cell?_of_block (w := w) (a := ⟨d, 2, none⟩) hd).trans h.c2
          c3 := (World.cell?_of_block (w := w) (a := ⟨d, 3, none⟩) hd).trans h.c3
          c4 := (World.cell?_of_block (w := w) (a := ⟨d, 4, none⟩) hd).trans h.c4
          f0 := (World.frozen?_of_block (w := w) (a := ⟨d, 0, none⟩) hd).trans h.f0
          f1 := (World.frozen?_of_block (w := w) (a := ⟨d, 1, none⟩) hd).trans h.f1
          f2 := (World.frozen?_of_block (w := w) (a := ⟨d, 2, none⟩) hd).trans h.f2
          rows := h.rows.block hl, map := hm }
end Go.Proofs.Ytlamllnflbdcjaa
