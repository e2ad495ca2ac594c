/-
  The contracts of disk's New, Lasts, Read, Write.
-/
import Derived.Test.YtlamllnflbdcjaaDleaf
import Derived.StillTailTactics
import Derived.Laws.MakeOwn
namespace Go.Proofs.Ytlamllnflbdcjaa
open Go.RowKit
open Dk (zeros zeros_length)

/-! ### whole pages out of a row, and into it -/
theorem RowsAt.len {w : World} {b : Nat} {ps : List (List UInt8)} (h : RowsAt w b ps) (i : Nat) (hi : i < ps.length) : (ps.getD i []).length = 64 := by
  rw [List.getD_eq_getElem?_getD, List.getElem?_eq_getElem hi]
  exact h.size _ (List.getElem_mem hi)
theorem wpList_load_row {ops : Array Oper} {rest : List Oper} {op : Oper} {a : Act} {Q : Exit → Act → World → Prop} {w : World} {b : Nat} {ps : List (List UInt8)} (h : RowsAt w b ps) (i : Nat) {p : List UInt8} (hi : ps[i]? = some p) (hgd : op.guard = none) (x : Operand) (ho : op.op = .load 31 x)
    (hx : a.eval x = .pointer (some ⟨b, i * 64, none⟩)) (hK : wpList Try.prog ops Q rest (a.put op.dst (pageV p)) w) : wpList Try.prog ops Q (op :: rest) a w :=
  wpList_load_mid hgd 31 x ho b (i * 64) hx (byteVals p) _ (h.range i p hi) Try.underlying31 rfl (by rw [page_info, byteVals_length, h.size p (List.mem_of_getElem? hi)]) hK
theorem wpList_store_row {ops : Array Oper} {rest : List Oper} {op : Oper} {a : Act} {Q : Exit → Act → World → Prop} {w : World} {b : Nat} {ps : List (List UInt8)} (h : RowsAt w b ps) (i : Nat) (hi : i < ps.length) {p : List UInt8} (hp : p.length = 64) (hgd : op.guard = none) (x y : Operand) (ho : op.op = .store 31 x y)
    (hx : a.eval x = .pointer (some ⟨b, i * 64, none⟩)) (hy : a.eval y = pageV p) (hK : wpList Try.prog ops Q rest (a.put op.dst undef) (w.setCells b (i * 64) (byteVals p))) : wpList Try.prog ops Q (op :: rest) a w :=
  wpList_store_mid hgd 31 x y ho b (i * 64) (byteVals p).toArray hx hy (by rw [List.size_toArray, byteVals_length, hp]; exact h.thereAt i hi) (by rw [page_info, List.size_toArray, byteVals_length, hp]) (all_oneCell_toArray (byteVals_one p)) (by simpa using hK)
theorem PageAt.block {w w' : World} {b : Nat} {p : List UInt8} (h : PageAt w b p) (hb : w'.heap[b]? = w.heap[b]?) : PageAt w' b p := ⟨h.len, rangeAt_block h.range hb, there_block h.free hb⟩
/-- a page and a number are handed back -/
theorem results_page_int (fn : Func) (s t : Nat) (hf : fn.results = #[.cell s 31, .tmp t]) {w : World} {b : Nat} {q : List UInt8} (tmps : Array Value) (h : PageAt w b q) (ht : tmps.getD s undef = .pointer (some ⟨b, 0, none⟩)) :
    (results fn tmps).run Try.prog w = .ok (.tuple #[pageV q, tmps.getD t undef]) w := by
  have hl := run_loadVar_mid (P := Try.prog) w b 0 31 (byteVals q) _ h.range Try.underlying31 rfl (by rw [page_info, byteVals_length, h.len])
  unfold results
  rw [hf]
  simp only [Array.mapM_eq_mapM_toList, List.mapM_cons, List.mapM_nil, ht, asAddr, Sem.run_bind, Sem.run_pure, Result.andThen_ok, hl, Sem.run_map]
  rfl

/-! ### New -/
def newWorld (w : World) (n : Nat) : World := ((w.alloc (.cells (zeroRow n) 31)).alloc (.map #[] 0)).alloc (.cells #[.bool false, .int .i64 0, .bool false, .slice (some ⟨w.heap.size, 0, none⟩) n n, .map (some (w.heap.size + 1))] 59)
theorem newWorld_size (w : World) (n : Nat) : (newWorld w n).heap.size = w.heap.size + 3 := by unfold newWorld; simp
theorem newWorld_below (w : World) (n : Nat) : Below w.heap.size w (newWorld w n) :=
  (((Below.refl _ _).alloc (Nat.le_refl _) _).alloc (by simp) _).alloc (by simp; omega) _
theorem newWorld_disk (w : World) (n : Nat) (h1 : 1 ≤ n) (h2 : n ≤ 512) : DiskAt (newWorld w n) (w.heap.size + 2) w.heap.size (w.heap.size + 1) (Dk.fresh n) := by
  have hl : (Dk.fresh n).last.length = n := by unfold Dk.fresh; simp
  have hs : ((w.alloc (.cells (zeroRow n) 31)).alloc (.map #[] 0)).heap.size = w.heap.size + 2 := by simp
  have hr : RowsAt (newWorld w n) w.heap.size (List.replicate n zeros) := by
    refine (rowsAt_new w n 31).block ?_
    unfold newWorld
    rw [Below.heap_alloc _ _ _ (by simp; omega), Below.heap_alloc _ _ _ (by simp)]
  have hm : MapAt (newWorld w n) (w.heap.size + 1) (List.replicate n none) := by
    have := mapAt_made (w.alloc (.cells (zeroRow n) 31)) n
    have e : (w.alloc (.cells (zeroRow n) 31)).heap.size = w.heap.size + 1 := by simp
    rw [e] at this
    refine this.block ?_
    unfold newWorld
    rw [Below.heap_alloc _ _ _ (by simp)]
  exact { ok := Dk.fresh_ok h1 h2, dl := by omega, dm := by omega, lm := by omega
          c0 := by unfold newWorld; simp [go_sem]; rfl
          c1 := by unfold newWorld; simp [go_sem]; rfl
          c2 := by unfold newWorld; simp [go_sem]; rfl
          c3 := by unfold newWorld; rw [hl]; simp [go_sem]
          c4 := by unfold newWorld; simp [go_sem]
          f0 := by unfold newWorld; simp [go_sem]
          f1 := by unfold newWorld; simp [go_sem]
          f2 := by unfold newWorld; simp [go_sem]
          rows := hr, map := hm }
theorem new_no (n : Int) (w : World) (h : n < 1 ∨ 512 < n) : Calls Try.prog 6 #[.int .i64 n] w fun e w' => e = .returned (.tuple #[.pointer none, .int .i64 22]) ∧ w = w' := by
  by_cases h1 : n < 1
  · clear h
    go_enter Try.func6, Try.ntmps6
    go_wp2
    go_ret2
    exact ⟨rfl, rfl⟩
  · have h2 : 512 < n := by omega
    clear h
    go_enter Try.func6, Try.ntmps6
    go_wp2
    go_ret2
    exact ⟨rfl, rfl⟩
set_option maxRecDepth 100000 in
set_option maxHeartbeats 400000 in
theorem new_any (n : Nat) (w : World) (h1 : 1 ≤ n) (h2 : n ≤ 512) : Calls Try.prog 6 #[.int .i64 (n : Int)] w fun e w' => e = .returned (.tuple #[.pointer (some ⟨w.heap.size + 2, 0, none⟩), .int .i64 0]) ∧ w' = newWorld w n := by
  have hmk := run_make_pages w n (by omega)
  have hmm := @run_makeMap Try.prog
  have k1 : ¬ (n : Int) < 1 := by omega
  have k2 : ¬ (512 : Int) < (n : Int) := by omega
  go_enter Try.func6, Try.ntmps6
  go_wp2
  go_ret2
  exact ⟨rfl, rfl⟩

/-! ### Lasts -/
end Go.Proofs.Ytlamllnflbdcjaa
