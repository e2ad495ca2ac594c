/-
  Arrays of sixty pages: in memory, as values, held against each other; the contract of the statement's pages.
-/
import Derived.Test.YtlamllnflbdcjaaJouter
import Derived.Test.YtlamllnflbdcjaaJzero
namespace Go.Proofs.Ytlamllnflbdcjaa
open Go.RowKit
open Dk (zeros zeros_length)
open Hd (Head rightB pageH)
open Jn (Chg quietH liveH)

def rowsV (ps : List (List UInt8)) : Value := .agg (byteVals ps.flatten).toArray
theorem rowsV_def (ps : List (List UInt8)) : Value.agg (byteVals ps.flatten).toArray = rowsV ps := rfl
theorem flat_length : ∀ (ps : List (List UInt8)), (∀ p ∈ ps, p.length = 64) → ps.flatten.length = ps.length * 64
  | [], _ => rfl
  | p :: r, h => by
    rw [List.flatten_cons, List.length_append, flat_length r (fun q hq => h q (by simp [hq])), h p (by simp), List.length_cons]; omega
theorem flat_drop : ∀ (ps : List (List UInt8)) (i : Nat), (∀ p ∈ ps, p.length = 64) → ps.flatten.drop (i * 64) = (ps.drop i).flatten
  | [], i, _ => by simp
  | p :: r, 0, _ => by simp
  | p :: r, i + 1, h => by
    have hp := h p (by simp)
    rw [List.flatten_cons, show (i + 1) * 64 = p.length + i * 64 by omega, ← List.drop_drop, List.drop_left, List.drop_succ_cons]
    exact flat_drop r i (fun q hq => h q (by simp [hq]))
theorem flat_part (ps : List (List UInt8)) (h : ∀ p ∈ ps, p.length = 64) (i : Nat) (p : List UInt8) (hi : ps[i]? = some p) : (ps.flatten.drop (i * 64)).take 64 = p := by
  obtain ⟨hl, he⟩ := List.getElem?_eq_some_iff.1 hi
  have hp : p.length = 64 := h p (List.mem_of_getElem? hi)
  rw [flat_drop ps i h, List.drop_eq_getElem_cons hl, he, List.flatten_cons, List.take_append_of_le_length (by omega), List.take_of_length_le (by omega)]
theorem flat_cell (ps : List (List UInt8)) (h : ∀ p ∈ ps, p.length = 64) (i : Nat) (p : List UInt8) (hi : ps[i]? = some p) (j : Nat) (hj : j < 64) : (byteVals ps.flatten)[i * 64 + j]? = (byteVals p)[j]? := by
  have e := flat_part ps h i p hi
  unfold byteVals
  rw [List.getElem?_map, List.getElem?_map]
  congr 1
  rw [← e, List.getElem?_take, if_pos hj, List.getElem?_drop]
theorem RowsAt.flat {w : World} {b : Nat} {ps : List (List UInt8)} (h : RowsAt w b ps) : w.rangeAt b 0 (byteVals ps.flatten) := fun k v hv => by
  have hk : k < ps.length * 64 := by
    have := (List.getElem?_eq_some_iff.1 hv).1
    rw [byteVals_length, flat_length ps h.size] at this; exact this
  obtain ⟨p, hp⟩ : ∃ p, ps[k / 64]? = some p := ⟨_, List.getElem?_eq_getElem (by omega)⟩
  have e : k = k / 64 * 64 + k % 64 := by omega
  rw [e, flat_cell ps h.size _ p hp _ (by omega)] at hv
  have := h.range _ p hp _ v hv
  rw [Nat.zero_add]
  rwa [← e] at this
theorem rowsAt_flat {w : World} {b : Nat} {ps : List (List UInt8)} (hs : ∀ p ∈ ps, p.length = 64) (hr : w.rangeAt b 0 (byteVals ps.flatten)) (hf : w.there b 0 (ps.length * 64)) : RowsAt w b ps where
  size := hs
  range := fun i p hp j v hv => by
    have hj : j < 64 := by
      have := (List.getElem?_eq_some_iff.1 hv).1
      rw [byteVals_length, hs p (List.mem_of_getElem? hp)] at this; exact this
    have := hr (i * 64 + j) v (by rw [flat_cell ps hs i p hp j hj]; exact hv)
    rwa [Nat.zero_add] at this
  free := hf
theorem zeroRow_size (n : Nat) : (zeroRow n).size = n * 64 := by unfold zeroRow; rw [List.size_toArray, byteVals_length, List.length_replicate]
theorem zeroRow60 : (zeroRow 60).size = 3840 := by rw [zeroRow_size]
theorem RowsAt.loads {w : World} {b : Nat} {ps : List (List UInt8)} (h : RowsAt w b ps) (hl : ps.length = 60) : (loadVar 43 ⟨b, 0, none⟩).run Try.prog w = .ok (rowsV ps) w :=
  run_loadVar_mid (P := Try.prog) w b 0 43 (byteVals ps.flatten) _ h.flat Try.underlying43 rfl (by rw [rows_info, byteVals_length, flat_length ps h.size, hl])
theorem wpList_load_rows {ops : Array Oper} {rest : List Oper} {op : Oper} {a : Act} {Q : Exit → Act → World → Prop} {w : World} {b : Nat} {ps : List (List UInt8)} (h : RowsAt w b ps) (hl : ps.length = 60) (hgd : op.guard = none) (x : Operand) (ho : op.op = .load 43 x)
    (hx : a.eval x = .pointer (some ⟨b, 0, none⟩)) (hK : wpList Try.prog ops Q rest (a.put op.dst (rowsV ps)) w) : wpList Try.prog ops Q (op :: rest) a w :=
  wpList_load_mid hgd 43 x ho b 0 hx (byteVals ps.flatten) _ h.flat Try.underlying43 rfl (by rw [rows_info, byteVals_length, flat_length ps h.size, hl]) hK
theorem wpList_load_rowsG {ops : Array Oper} {rest : List Oper} {op : Oper} {a : Act} {Q : Exit → Act → World → Prop} {w : World} {b : Nat} {ps : List (List UInt8)} (h : RowsAt w b ps) (hl : ps.length = 60) (x : Operand) (ho : op.op = .load 43 x)
    (hx : a.eval x = .pointer (some ⟨b, 0, none⟩)) (hw : Region.wanted op (yielded ops a.tmps) = true) (hK : wpList Try.prog ops Q rest (a.put op.dst (rowsV ps)) w) : wpList Try.prog ops Q (op :: rest) a w :=
  BigFrame.wpList_want hw fun _ hK' => wp_load_mid 43 x ho b 0 hx (byteVals ps.flatten) _ h.flat Try.underlying43 rfl (by rw [rows_info, byteVals_length, flat_length ps h.size, hl]) (hK' _ _ hK)
theorem flat_size {ps : List (List UInt8)} (hs : ∀ p ∈ ps, p.length = 64) (hl : ps.length = 60) : (byteVals ps.flatten).toArray.size = 3840 := by rw [List.size_toArray, byteVals_length, flat_length ps hs, hl]
theorem wpList_store_newrows {ops : Array Oper} {rest : List Oper} {op : Oper} {a : Act} {Q : Exit → Act → World → Prop} {w : World} {Z : Array Value} {t : TypeId} {ps : List (List UInt8)} (hs : ∀ p ∈ ps, p.length = 64) (hl : ps.length = 60) (hgd : op.guard = none) (x y : Operand) (ho : op.op = .store 43 x y)
    (hx : a.eval x = .pointer (some ⟨w.heap.size, 0, none⟩)) (hy : a.eval y = rowsV ps) (hZ : Z.size = 3840)
    (h : ∀ W2, RowsAt W2 w.heap.size ps → Below w.heap.size w W2 → W2.heap.size = w.heap.size + 1 → wpList Try.prog ops Q rest (a.put op.dst undef) W2) :
    wpList Try.prog ops Q (op :: rest) a (w.alloc (.cells Z t)) := by
  have ht : (w.alloc (.cells Z t)).there w.heap.size 0 3840 := there_new w Z t _ (by omega)
  refine wpList_store_mid hgd 43 x y ho w.heap.size 0 (byteVals ps.flatten).toArray hx hy (by rw [flat_size hs hl]; exact ht) (by rw [rows_info, flat_size hs hl]) (all_oneCell_toArray (byteVals_one _)) (h _ ?_ ?_ ?_)
  · exact rowsAt_flat hs (World.rangeAt_setCells_same _ _ _ _ (by rw [List.toList_toArray, byteVals_length, flat_length ps hs, hl]; exact ht)) (World.there_setCells (by rw [hl]; exact ht) _ _ _)
  · exact below_setCells _ (Nat.le_refl _) _ _ _ ((Below.refl _ _).alloc (Nat.le_refl _) _)
  · rw [heap_setCells]; simp
theorem RowsAt.putAll {w : World} {b : Nat} {qs : List (List UInt8)} (h : RowsAt w b qs) {ps : List (List UInt8)} (hs : ∀ p ∈ ps, p.length = 64) (hl : ps.length = qs.length) : RowsAt (w.setCells b 0 (byteVals ps.flatten)) b ps :=
  rowsAt_flat hs (World.rangeAt_setCells_same _ _ _ _ (by rw [byteVals_length, flat_length ps hs, hl]; exact h.free)) (World.there_setCells (by rw [hl]; exact h.free) _ _ _)
theorem wpList_store_rows {ops : Array Oper} {rest : List Oper} {op : Oper} {a : Act} {Q : Exit → Act → World → Prop} {w : World} {b : Nat} {qs ps : List (List UInt8)} (h : RowsAt w b qs) (hq : qs.length = 60) (hs : ∀ p ∈ ps, p.length = 64) (hl : ps.length = 60) (hgd : op.guard = none) (x y : Operand) (ho : op.op = .store 43 x y)
    (hx : a.eval x = .pointer (some ⟨b, 0, none⟩)) (hy : a.eval y = rowsV ps) (hK : wpList Try.prog ops Q rest (a.put op.dst undef) (w.setCells b 0 (byteVals ps.flatten))) : wpList Try.prog ops Q (op :: rest) a w :=
  wpList_store_mid hgd 43 x y ho b 0 (byteVals ps.flatten).toArray hx hy (by rw [flat_size hs hl]; have := h.free; rw [hq] at this; exact this) (by rw [rows_info, flat_size hs hl]) (all_oneCell_toArray (byteVals_one _)) (by simpa using hK)
theorem yields_rows {ops : Array Oper} {S : World → Prop} {oi : Oper} {a : Act} {b : Nat} {ps : List (List UInt8)} (hw : Region.wanted oi (yielded ops a.tmps) = true) (x : Operand) (ho : oi.op = .load 43 x) (hx : a.eval x = .pointer (some ⟨b, 0, none⟩)) (hl : ps.length = 60) (hS : ∀ w, S w → RowsAt w b ps) :
    YieldsIf Try.prog ops S oi (rowsV ps) a := by
  by_cases h : ∃ w, S w
  · obtain ⟨w0, h0⟩ := h
    exact yieldsIf_load_mid hw 43 x ho b 0 hx (byteVals ps.flatten) _ (fun w h => (hS w h).flat) Try.underlying43 rfl (by rw [rows_info, byteVals_length, flat_length ps (hS w0 h0).size, hl])
  · exact Or.inl ⟨hw, fun w hw' => absurd ⟨w, hw'⟩ h⟩
theorem results_rows (fn : Func) (s : Nat) (hf : fn.results = #[.cell s 43]) {w : World} {b : Nat} {ps : List (List UInt8)} (tmps : Array Value) (h : RowsAt w b ps) (hl : ps.length = 60) (ht : tmps.getD s undef = .pointer (some ⟨b, 0, none⟩)) :
    (results fn tmps).run Try.prog w = .ok (rowsV ps) w := by
  have hl := h.loads hl
  unfold results
  rw [hf]
  simp only [Array.mapM_eq_mapM_toList, List.mapM_cons, List.mapM_nil, ht, asAddr, Sem.run_bind, Sem.run_pure, Result.andThen_ok, hl, Sem.run_map]
  rfl

/-! ### held against each other -/
theorem run_eqPagesD (w : World) (d : Nat) (p q : List UInt8) (hp : p.length = 64) (hq : q.length = 64) : (Op.equalIn (d + 2) 31 (pageV p) (pageV q)).run Try.prog w = .ok (decide (p = q)) w := by
  obtain ⟨i, hi⟩ := info8
  unfold pageV
  rw [run_equalIn_array w (d + 1) _ _ Try.underlying31 hi, cells8, List.range_eq_range']
  have := run_eqBytes w p q (hp.trans hq.symm) d 64 0 (by omega)
  simpa using this
theorem infoP : ∃ i, Try.prog.info? 31 = some i ∧ i.size = 64 := by
  obtain ⟨i, _, hi, _, hs, _⟩ := page_type
  exact ⟨i, hi, hs⟩
theorem run_partP (w : World) (ps : List (List UInt8)) (h : ∀ p ∈ ps, p.length = 64) (i : Nat) (p : List UInt8) (hi : ps[i]? = some p) : (part 31 (byteVals ps.flatten).toArray (i * 64)).run Try.prog w = .ok (pageV p) w := by
  have ha : (isAgg 31).run Try.prog w = .ok true w := by
    unfold isAgg
    rw [Sem.run_bind, run_underlying Try.underlying31 w]; rfl
  obtain ⟨i0, hi0, hs0⟩ := infoP
  have hz : (sizeOf 31).run Try.prog w = .ok 64 w := by rw [run_sizeOf w hi0, cellsP]
  unfold part
  rw [Sem.run_bind, ha]
  simp only [Result.andThen_ok, if_true, Sem.run_bind, hz, Sem.run_pure]
  congr 1
  unfold pageV
  congr 1
  apply Array.ext'
  rw [Array.toList_extract, List.toList_toArray]
  have e := flat_part ps h i p hi
  unfold byteVals
  rw [← e, List.map_take, List.map_drop]
  simp
theorem eqItems_step {P : Program} (w : World) (D : Nat) (e : TypeId) (sz : Nat) (X Y : Array Value) (i : Nat) (is : List Nat) {x y : Value} {r : Bool} (h1 : (part e X (i * sz)).run P w = .ok x w) (h2 : (part e Y (i * sz)).run P w = .ok y w) (h3 : (Op.equalIn D e x y).run P w = .ok r w) :
    (Op.eqItems D e sz X Y (i :: is)).run P w = if r = true then (Op.eqItems D e sz X Y is).run P w else .ok false w := by
  rw [Op.eqItems]
  simp only [Sem.run_bind, h1, h2, h3, Result.andThen_ok]
  cases r <;> simp
theorem eqItems_all {P : Program} (w : World) (D : Nat) (e : TypeId) (sz : Nat) (X Y : Array Value) (ps qs : List (List UInt8)) (hl : ps.length = qs.length)
    (E : ∀ i (hp : i < ps.length) (hq : i < qs.length), ∃ x y, (part e X (i * sz)).run P w = .ok x w ∧ (part e Y (i * sz)).run P w = .ok y w ∧ (Op.equalIn D e x y).run P w = .ok (decide (ps[i] = qs[i])) w) (n : Nat) : ∀ (i : Nat), i + n = ps.length →
    (Op.eqItems D e sz X Y (List.range' i n)).run P w = .ok (decide (ps.drop i = qs.drop i)) w := by
  induction n with
  | zero =>
    intro i h
    rw [List.range'_zero, Op.eqItems, List.drop_of_length_le (by omega), List.drop_of_length_le (by omega), Sem.run_pure]
    simp
  | succ n ih =>
    intro i h
    have hp : i < ps.length := by omega
    have hq : i < qs.length := by omega
    obtain ⟨x, y, e1, e2, e3⟩ := E i hp hq
    have ih' := ih (i + 1) (by omega)
    rw [List.range'_succ, eqItems_step w D e sz X Y i _ e1 e2 e3, ih']
    have dp : ps.drop i = ps[i] :: ps.drop (i + 1) := List.drop_eq_getElem_cons hp
    have dq : qs.drop i = qs[i] :: qs.drop (i + 1) := List.drop_eq_getElem_cons hq
    by_cases c : ps[i] = qs[i]
    · rw [if_pos (decide_eq_true c)]
      congr 1
      rw [decide_eq_decide, dp, dq, c, List.cons.injEq]
      exact ⟨fun h => ⟨rfl, h⟩, fun h => h.2⟩
    · rw [if_neg (by rw [decide_eq_false c]; exact Bool.false_ne_true)]
      congr 1
      symm
      rw [decide_eq_false_iff_not, dp, dq]
      intro e
      exact c (by injection e)
theorem run_eqRowsFrom (w : World) (d : Nat) (ps qs : List (List UInt8)) (hl : ps.length = qs.length) (h1 : ∀ p ∈ ps, p.length = 64) (h2 : ∀ p ∈ qs, p.length = 64) (n i : Nat) (h : i + n = ps.length) :
    (Op.eqItems (d + 2) 31 64 (byteVals ps.flatten).toArray (byteVals qs.flatten).toArray (List.range' i n)).run Try.prog w = .ok (decide (ps.drop i = qs.drop i)) w :=
  eqItems_all w (d + 2) 31 64 _ _ ps qs hl (fun i hp hq => ⟨pageV ps[i], pageV qs[i], run_partP w ps h1 i _ (List.getElem?_eq_getElem hp), run_partP w qs h2 i _ (List.getElem?_eq_getElem hq), run_eqPagesD w d ps[i] qs[i] (h1 _ (List.getElem_mem hp)) (h2 _ (List.getElem_mem hq))⟩) n i h
theorem run_eqRows (w : World) (ps qs : List (List UInt8)) (hl : ps.length = 60) (hm : qs.length = 60) (h1 : ∀ p ∈ ps, p.length = 64) (h2 : ∀ p ∈ qs, p.length = 64) : (Op.equalIn 10000 43 (rowsV ps) (rowsV qs)).run Try.prog w = .ok (decide (ps = qs)) w := by
  obtain ⟨i0, hi0, hs0⟩ := infoP
  unfold rowsV
  rw [run_equalIn_array w 9999 _ _ Try.underlying43 hi0, cellsP, List.range_eq_range']
  have := run_eqRowsFrom w 9997 ps qs (hl.trans hm.symm) h1 h2 60 0 (by omega)
  simpa using this
theorem run_eql_rows (w : World) (ps qs : List (List UInt8)) (hl : ps.length = 60) (hm : qs.length = 60) (h1 : ∀ p ∈ ps, p.length = 64) (h2 : ∀ p ∈ qs, p.length = 64) : (binOp .eql 43 (rowsV ps) (rowsV qs)).run Try.prog w = .ok (.bool (decide (ps = qs))) w := by
  have h := run_eqRows w ps qs hl hm h1 h2
  unfold rowsV at h ⊢
  rw [run_eql_struct, h]; rfl
theorem run_eqGuard_rows (w : World) (x y : Operand) (p q : List (List UInt8)) : (eqGuard .eql 43 x y (rowsV p) (rowsV q)).run Try.prog w = .ok () w :=
  run_eqGuard_agg w .eql 43 x y _ _ (by kernel_rfl)

/-! ### the statement's pages -/
def pgF (s : Dk.St) (i : Nat) : List UInt8 := if i < 2 ∨ 22 ≤ i then Dk.readP s (i : Int) else zeros
def pgs (s : Dk.St) : List (List UInt8) := (List.range 60).map (pgF s)
def pgK (s : Dk.St) (k : Nat) : List (List UInt8) := (List.range k).map (pgF s) ++ List.replicate (60 - k) zeros
theorem pgF_len {s : Dk.St} (h : s.Ok) (i : Nat) : (pgF s i).length = 64 := by
  unfold pgF
  split
  · exact Dk.readP_len h _
  · exact zeros_length
theorem pgs_length (s : Dk.St) : (pgs s).length = 60 := by unfold pgs; simp
theorem pgs_pages {s : Dk.St} (h : s.Ok) : ∀ p ∈ pgs s, p.length = 64 := by
  intro p hp
  obtain ⟨i, _, rfl⟩ := List.mem_map.1 hp
  exact pgF_len h i
theorem pgK_length (s : Dk.St) (k : Nat) (h : k ≤ 60) : (pgK s k).length = 60 := by unfold pgK; simp; omega
theorem pgK_step (s : Dk.St) (k : Nat) (h : k < 60) : (pgK s k).set k (pgF s k) = pgK s (k + 1) := by
  unfold pgK
  rw [List.set_append_right _ _ (by simp), List.length_map, List.length_range, Nat.sub_self, show 60 - k = (60 - (k + 1)) + 1 by omega, List.replicate_succ, List.set_cons_zero, List.range_succ, List.map_append]
  simp
theorem pgK_skip (s : Dk.St) (k : Nat) (h : k < 60) (hz : pgF s k = zeros) : pgK s k = pgK s (k + 1) := by
  unfold pgK
  rw [List.range_succ, List.map_append, List.append_assoc, show 60 - k = (60 - (k + 1)) + 1 by omega, List.replicate_succ, List.map_cons, List.map_nil, hz]
  rfl
end Go.Proofs.Ytlamllnflbdcjaa
