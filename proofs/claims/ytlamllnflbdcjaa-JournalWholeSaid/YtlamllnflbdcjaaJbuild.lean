/-
  A change that is written out; slices of one page and of one change.
-/
import Derived.Test.YtlamllnflbdcjaaJget
import Derived.Laws.Tables
import Derived.Great.FillDense
import Derived.Great.BuildSlice
namespace Go.Proofs.Ytlamllnflbdcjaa
open Go.RowKit
open Dk (zeros zeros_length)
open Hd (Head rightB pageH)
open Jn (Chg)

theorem chg_built (parts : List (Nat × Value)) : Try.prog.built 46 parts = Instr.fill (#[((0 : Nat), (1 : Nat)), (1, 64)][·]?) chgZero parts := by kernel_rfl
theorem fill_two (z : Array Value) (v : Value) (q : Array Value) (hv : v.cells = #[v]) (hq : q.size = 64) (hz : z.size = 65) :
    Instr.fill (#[((0 : Nat), (1 : Nat)), (1, 64)][·]?) z [(0, v), (1, .agg q)] = some (v :: q.toList).toArray := by
  have hc : (Value.agg q).cells = q := rfl
  obtain ⟨g1, g2⟩ := Great.foldl_set 0 [v] 0 z
  obtain ⟨k1, k2⟩ := Great.foldl_set 1 q.toList 0 (([v].zipIdx 0).foldl (fun cs (x : Value × Nat) => cs.setIfInBounds (0 + x.2) x.1) z)
  rw [g1, hz] at k1
  unfold Instr.fill
  show (if v.cells.size ≠ 1 || 0 + v.cells.size > z.size then none else _) = _
  rw [if_neg (by rw [hv, hz]; simp)]
  unfold Instr.fill
  show (if (Value.agg q).cells.size ≠ 64 || 1 + (Value.agg q).cells.size > _ then none else _) = _
  have hsz : (v.cells.zipIdx.foldl (fun cs (x : Value × Nat) => cs.setIfInBounds (0 + x.2) x.1) z).size = 65 := by
    rw [← Array.foldl_toList, Array.toList_zipIdx, hv]
    rw [← hz]; exact g1
  rw [if_neg (by rw [hc, hq, hsz]; simp)]
  unfold Instr.fill
  congr 1
  apply Array.ext_getElem?
  intro k
  have e : (Array.foldl (fun cs (x : Value × Nat) => cs.setIfInBounds (1 + x.2) x.1) (Array.foldl (fun cs (x : Value × Nat) => cs.setIfInBounds (0 + x.2) x.1) z v.cells.zipIdx) (Value.agg q).cells.zipIdx)
      = (q.toList.zipIdx 0).foldl (fun cs (x : Value × Nat) => cs.setIfInBounds (1 + x.2) x.1) (([v].zipIdx 0).foldl (fun cs (x : Value × Nat) => cs.setIfInBounds (0 + x.2) x.1) z) := by
    rw [hc, hv, ← Array.foldl_toList, Array.toList_zipIdx, ← Array.foldl_toList (xs := #[v].zipIdx), Array.toList_zipIdx]
  refine (congrArg (·[k]?) e).trans ?_
  have e2 : ((v :: q.toList).toArray)[k]? = (v :: q.toList)[k]? := by simp
  rw [e2]
  show ((q.toList.zipIdx 0).foldl _ _)[k]? = _
  rw [k2 k, g2 k, g1, hz, Array.length_toList, hq]
  by_cases h0 : k = 0
  · subst h0
    rw [if_neg (by omega), if_pos (by simp)]; rfl
  · obtain ⟨j, rfl⟩ : ∃ j, k = j + 1 := ⟨k - 1, by omega⟩
    rw [List.getElem?_cons_succ]
    by_cases hj : j < 64
    · rw [if_pos (by omega)]
      congr 1
    · rw [if_neg (by omega), if_neg (by simp), Array.getElem?_eq_none (by omega), List.getElem?_eq_none (by rw [Array.length_toList]; omega)]
theorem built_chg (v : Int) (p : List UInt8) (hp : p.length = 64) : Try.prog.built 46 [(0, .int .i64 v), (1, pageV p)] = some (chgVals ⟨v, p⟩).toArray := by
  rw [chg_built]
  unfold pageV
  rw [fill_two chgZero _ _ rfl (by rw [List.size_toArray, byteVals_length, hp]) chgZero_size]
  rfl
theorem wpList_buildChg {ops : Array Oper} {rest : List Oper} {o : Oper} {a : Act} {w : World} {Q : Exit → Act → World → Prop} (v : Int) (p : List UInt8) (hp : p.length = 64) (hg : o.guard = none) (x y : Operand) (ho : o.op = .build 46 #[(0, x), (1, y)]) (d : Option Tmp) (hd : o.dst = d) (hx : a.eval x = .int .i64 v) (hy : a.eval y = pageV p)
    (h : wpList Try.prog ops Q rest (a.put d (chgV ⟨v, p⟩)) w) : wpList Try.prog ops Q (o :: rest) a w :=
  wpList_buildTo hg 46 _ ho d hd (chgVals ⟨v, p⟩).toArray (by
    simp only [List.map_toArray, List.map_cons, List.map_nil, hx, hy]
    exact built_chg v p hp) h

/-! ### slices of one -/
theorem page_type : ∃ i z, Try.prog.info? 31 = some i ∧ i.zero = some z ∧ i.size = 64 ∧ i.bytes = 64 ∧ z.cells.size = 64 := by
  have h1 := page_info
  have h2 : (Try.prog.info? 31).map (·.bytes) = some 64 := by kernel_rfl
  have h3 : ((Try.prog.info? 31).bind (·.zero)).map (·.cells.size) = some 64 := by kernel_rfl
  cases h : Try.prog.info? 31 with
  | none => rw [h] at h1; cases h1
  | some i =>
    rw [h] at h1 h2 h3
    cases hz : i.zero with
    | none => simp [hz] at h3
    | some z =>
      simp [hz] at h1 h2 h3
      exact ⟨i, z, rfl, hz, h1, h2, h3⟩
theorem run_buildPage (w : World) (p : List UInt8) (hp : p.length = 64) : (Instr.buildSlice 54 1 #[(0, pageV p)]).run Try.prog w = .ok (.slice (some ⟨w.heap.size, 0, none⟩) 1 1) (w.alloc (.cells (byteVals p).toArray 31)) := by
  obtain ⟨i, z, hi, hz, hs, _, _⟩ := page_type
  refine run_buildSlice w 54 31 1 #[(0, pageV p)] _ i z Try.underlying54 hi hz (by rw [hs]; omega) (by rw [hs]; omega) ?_
  rw [hs]
  have h := Great.fill_whole (s := 64) (by omega) [pageV p] ((Array.range (1 * 64)).map (z.cells[· % z.cells.size]!)) (fun v hv => by
    rw [List.mem_singleton] at hv
    rw [hv]
    show (byteVals p).toArray.size = 64
    rw [List.size_toArray, byteVals_length, hp]) (by simp)
  refine h.trans ?_
  congr 1
  show ([pageV p].flatMap fun v => v.cells.toList).toArray = _
  simp [pageV, Value.cells]
theorem wp_buildPage {o : Oper} {a : Act} {w : World} {K : Act → World → Prop} {Q : Exit → Act → World → Prop} {p : List UInt8} (hp : p.length = 64) (x : Operand) (ho : o.op = .buildSlice 54 1 #[(0, x)]) (hx : a.eval x = pageV p)
    (h : K (a.put o.dst (.slice (some ⟨w.heap.size, 0, none⟩) 1 1)) (w.alloc (.cells (byteVals p).toArray 31))) : o.wp Try.prog a w K Q := by
  have hr := run_buildPage w p hp
  unfold Oper.wp execOp
  simp only [ho, List.map_toArray, List.map_cons, List.map_nil, hx, Sem.run_bind, hr, Result.andThen_ok]
  exact h
theorem wpList_buildPage {ops : Array Oper} {rest : List Oper} {o : Oper} {a : Act} {w : World} {Q : Exit → Act → World → Prop} {p : List UInt8} (hp : p.length = 64) (hgd : o.guard = none) (x : Operand) (ho : o.op = .buildSlice 54 1 #[(0, x)]) (hx : a.eval x = pageV p)
    (h : wpList Try.prog ops Q rest (a.put o.dst (.slice (some ⟨w.heap.size, 0, none⟩) 1 1)) (w.alloc (.cells (byteVals p).toArray 31))) : wpList Try.prog ops Q (o :: rest) a w :=
  wpList_plain hgd fun _ hK => wp_buildPage hp x ho hx (hK _ _ h)
theorem rows_one (w : World) (p : List UInt8) (hp : p.length = 64) (t : TypeId) : RowsAt (w.alloc (.cells (byteVals p).toArray t)) w.heap.size [p] where
  size := fun q hq => by rw [List.mem_singleton] at hq; rw [hq]; exact hp
  range := fun i q hq => by
    match i, hq with
    | 0, hq =>
      injection hq with hq
      rw [← hq]
      exact (pageAt_new w p t hp).range
  free := (pageAt_new w p t hp).free
theorem anyH_buildPage {ops : Array Oper} {Q : Exit → Act → World → Prop} {md : Region.Mode} {S : World → Prop} {i : Nat} {oi : Oper} {fuel : Nat} {listed : Array Bool} {a : Act} {w : World} {p : List UInt8} (hp : p.length = 64)
    (hr : Region.ready md ops listed = [i]) (hi : ops[i]? = some oi) (hw : Region.wanted oi (yielded ops a.tmps) = true) (x : Operand) (ho : oi.op = .buildSlice 54 1 #[(0, x)]) (hx : a.eval x = pageV p) (d : Option Tmp) (hd : oi.dst = d)
    (hS : S (w.alloc (.cells (byteVals p).toArray 31)))
    (hK : S (w.alloc (.cells (byteVals p).toArray 31)) → wpAnyH Try.prog md ops Q S fuel (listed.setIfInBounds i true) (a.put d (.slice (some ⟨w.heap.size, 0, none⟩) 1 1)) (w.alloc (.cells (byteVals p).toArray 31))) : wpAnyH Try.prog md ops Q S (fuel + 1) listed a w :=
  anyH_one hr hi hw fun _ hK' => wp_buildPage hp x ho hx (hK' _ _ hS (hd ▸ hK hS))
end Go.Proofs.Ytlamllnflbdcjaa
