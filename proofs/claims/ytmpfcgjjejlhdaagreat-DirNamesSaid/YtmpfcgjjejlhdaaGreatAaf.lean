/- Texts of the proof. -/
import Derived.Test.YtmpfcgjjejlhdaaGreatAab
import Derived.Test.YtmpfcgjjejlhdaaGreatAac
import Derived.BigQuiet
import Derived.Test.YtmpfcgjjejlhdaaGreatAae
import Derived.Deep.Slices
import Derived.IntWalk
import Derived.OwnWalk
import Derived.Shelf.SlIterI.Nil
import Derived.Shelf.SortM.Plain
import Derived.Shelf.SortM.SortNone
set_option maxRecDepth 100000
set_option maxHeartbeats 16000000
namespace Go.Proofs.YtmpfcgjjejlhdaaGreat
section
open Dk (zeros zeros_length)
open Go.RowKit
theorem RowAt.frozen {w : World} {b : Nat} {vs : List Value} (h : RowAt w b vs) (j : Nat) (hj : j < vs.length) : w.frozen? ⟨b, j, none⟩ = false := by
  have := (h.free j hj).2
  rwa [Nat.zero_add] at this
theorem RowAt.step {w w' : World} {b : Nat} {v : Value} {vs : List Value} (h : RowAt w b (v :: vs)) (hb : Below w.heap.size w w') : RowAt w' b (v :: vs) := h.below hb h.lt
theorem PageAt.step {w w' : World} {b : Nat} {p : List UInt8} (h : PageAt w b p) (hb : Below w.heap.size w w') : PageAt w' b p := h.below hb h.lt
structure RowT (t : TypeId) (n : Nat) : Prop where
  row : ∃ d, Tryz.prog.underlying t = some d ∧ d.isRow = true
  info : (Tryz.prog.info? t).map (·.size) = some n
theorem RowAt.loads {t : TypeId} {n : Nat} (ht : RowT t n) {w : World} {b : Nat} {vs : List Value} (k : RowAt w b vs) (hl : vs.length = n) : (loadVar t ⟨b, 0, none⟩).run Tryz.prog w = .ok (.agg vs.toArray) w := by
  obtain ⟨d, hd, hr⟩ := ht.row
  exact run_loadVar_mid (P := Tryz.prog) w b 0 t vs d k.range hd hr (by rw [ht.info, hl])
theorem wpList_load_rw {t : TypeId} {n : Nat} (ht : RowT t n) {ops : Array Oper} {rest : List Oper} {op : Oper} {a : Act} {Q : Exit → Act → World → Prop} {w : World} {b : Nat} {vs : List Value} (k : RowAt w b vs) (hl : vs.length = n) (hgd : op.guard = none) (x : Operand) (ho : op.op = .load t x)
    (hx : a.eval x = .pointer (some ⟨b, 0, none⟩)) (hn : wpList Tryz.prog ops Q rest (a.put op.dst (.agg vs.toArray)) w) : wpList Tryz.prog ops Q (op :: rest) a w := by
  obtain ⟨d, hd, hr⟩ := ht.row
  exact wpList_load_mid hgd t x ho b 0 hx vs d k.range hd hr (by rw [ht.info, hl]) hn
theorem wpList_store_rw {t : TypeId} {n : Nat} (ht : RowT t n) {ops : Array Oper} {rest : List Oper} {op : Oper} {a : Act} {Q : Exit → Act → World → Prop} {w : World} {b : Nat} {us vs : List Value} (k : RowAt w b us) (hu : us.length = n) (hl : vs.length = n) (ho1 : ∀ v ∈ vs, v.oneCell' = true) (hgd : op.guard = none) (x y : Operand) (ho : op.op = .store t x y)
    (hx : a.eval x = .pointer (some ⟨b, 0, none⟩)) (hy : a.eval y = .agg vs.toArray) (hn : wpList Tryz.prog ops Q rest (a.put op.dst undef) (w.setCells b 0 vs)) : wpList Tryz.prog ops Q (op :: rest) a w :=
  wpList_store_mid hgd t x y ho b 0 vs.toArray hx hy (by rw [List.size_toArray, hl, ← hu]; exact k.free) (by rw [ht.info, List.size_toArray, hl]) (all_oneCell_toArray ho1) (by simpa using hn)
theorem wpList_store_newrow {t : TypeId} {n : Nat} (ht : RowT t n) {ops : Array Oper} {rest : List Oper} {op : Oper} {a : Act} {Q : Exit → Act → World → Prop} {w : World} {Z : Array Value} {u : TypeId} {vs : List Value} (hl : vs.length = n) (ho1 : ∀ v ∈ vs, v.oneCell' = true) (hgd : op.guard = none) (x y : Operand) (ho : op.op = .store t x y)
    (hx : a.eval x = .pointer (some ⟨w.heap.size, 0, none⟩)) (hy : a.eval y = .agg vs.toArray) (hZ : Z.size = n)
    (hn : ∀ W2, RowAt W2 w.heap.size vs → Below w.heap.size w W2 → W2.heap.size = w.heap.size + 1 → wpList Tryz.prog ops Q rest (a.put op.dst undef) W2) :
    wpList Tryz.prog ops Q (op :: rest) a (w.alloc (.cells Z u)) := by
  have hth : (w.alloc (.cells Z u)).there w.heap.size 0 vs.length := there_new w Z u _ (by omega)
  refine wpList_store_mid hgd t x y ho w.heap.size 0 vs.toArray hx hy (by rw [List.size_toArray]; exact hth) (by rw [ht.info, List.size_toArray, hl]) (all_oneCell_toArray ho1) (hn _ ?_ ?_ ?_)
  · exact ⟨World.rangeAt_setCells_same _ _ _ _ hth, World.there_setCells hth _ _ _⟩
  · exact below_setCells _ (Nat.le_refl _) _ _ _ ((Below.refl _ _).alloc (Nat.le_refl _) _)
  · rw [heap_setCells]; simp
theorem results_row {t : TypeId} {n : Nat} (ht : RowT t n) (fn : Func) (s : Nat) (hf : fn.results = #[.cell s t]) {w : World} {b : Nat} {vs : List Value} (tmps : Array Value) (k : RowAt w b vs) (hl : vs.length = n) (hs : tmps.getD s undef = .pointer (some ⟨b, 0, none⟩)) :
    (results fn tmps).run Tryz.prog w = .ok (.agg vs.toArray) w := by
  have hl := k.loads ht hl
  unfold results
  rw [hf]
  simp only [Array.mapM_eq_mapM_toList, List.mapM_cons, List.mapM_nil, hs, asAddr, Sem.run_bind, Sem.run_pure, Result.andThen_ok, hl, Sem.run_map]
  rfl
theorem results_row2 {t : TypeId} {n : Nat} (ht : RowT t n) (fn : Func) (s r : Nat) (hf : fn.results = #[.cell s t, .tmp r]) {w : World} {b : Nat} {vs : List Value} {v : Value} (tmps : Array Value) (k : RowAt w b vs) (hl : vs.length = n) (hs : tmps.getD s undef = .pointer (some ⟨b, 0, none⟩)) (hr : tmps.getD r undef = v) :
    (results fn tmps).run Tryz.prog w = .ok (.tuple #[.agg vs.toArray, v]) w := by
  have hl := k.loads ht hl
  unfold results
  rw [hf]
  simp only [Array.mapM_eq_mapM_toList, List.mapM_cons, List.mapM_nil, hs, hr, asAddr, Sem.run_bind, Sem.run_pure, Result.andThen_ok, hl, Sem.run_map]
  rfl
theorem results_page2 (fn : Func) (s r : Nat) (hf : fn.results = #[.cell s 97, .tmp r]) {w : World} {b : Nat} {q : List UInt8} {v : Value} (tmps : Array Value) (h : PageAt w b q) (ht : tmps.getD s undef = .pointer (some ⟨b, 0, none⟩)) (hr : tmps.getD r undef = v) :
    (results fn tmps).run Tryz.prog w = .ok (.tuple #[pageV q, v]) w := by
  have hl := h.loads
  unfold results
  rw [hf]
  simp only [Array.mapM_eq_mapM_toList, List.mapM_cons, List.mapM_nil, ht, hr, asAddr, Sem.run_bind, Sem.run_pure, Result.andThen_ok, hl, Sem.run_map]
  rfl
section
variable {ops : Array Oper} {σ : Type} {S : σ → World → Prop}
theorem gives_store_row {t : TypeId} {n : Nat} (ht : RowT t n) {o : Oper} {a : Act} {w : World} {b : Nat} {us vs : List Value} {R : Value → World → Prop} (k : RowAt w b us) (hu : us.length = n) (hl : vs.length = n) (ho1 : ∀ v ∈ vs, v.oneCell' = true) (x y : Operand) (ho : o.op = .store t x y) (hx : a.eval x = .pointer (some ⟨b, 0, none⟩)) (hy : a.eval y = .agg vs.toArray)
    (hR : R undef (w.setCells b 0 vs)) : Gives Tryz.prog (execOp a.eval o) w R := by
  have hs := run_storeVar_mid (P := Tryz.prog) w b 0 t vs.toArray (by rw [List.size_toArray, hl, ← hu]; exact k.free) (by rw [ht.info, List.size_toArray, hl]) (all_oneCell_toArray ho1)
  have hrun : (execOp a.eval o).run Tryz.prog w = .ok .skip (w.setCells b 0 vs) ∨ (execOp a.eval o).run Tryz.prog w = .ok (.value undef) (w.setCells b 0 vs) := by
    unfold execOp
    simp only [ho, hx, hy, Instr.storeAt, Instr.sureAddr, Sem.run_bind, Sem.run_pure, Result.andThen_ok, hs]
    simp
  unfold Gives
  rcases hrun with h | h <;> (rw [h]; exact hR)
end
theorem wp_region_class {id : Nat} {C : World → Prop} {Q : Exit → Act → World → Prop} {a : Act} {w : World} {l : List Oper} (hB : Region.lexB .any l.toArray = true) (hC : C { w with drawn := w.drawn + 1 })
    (h : wpQuiet Tryz.prog l.toArray C (fun a' => ∀ w', C w' → Q .normal a' w') l a) : (Code.region id l.toArray true).wp Tryz.prog Q a w :=
  wp_region_quiet (C := C) (by kernel_rfl) hB hC (by simpa using h)
theorem wpQuiet_take {ops : Array Oper} {rest : List Oper} {op : Oper} {a : Act} {Q : Act → Prop} {C : World → Prop} (v : Value) (hw : Region.wanted op (yielded ops a.tmps) = true) (hrun : ∀ w, C w → (execOp a.eval op).run Tryz.prog w = .ok (.value v) w)
    (h : wpQuiet Tryz.prog ops C Q rest (a.put op.dst v)) : wpQuiet Tryz.prog ops C Q (op :: rest) a := by
  refine wpQuiet_step (fun K hK => ?_)
  rw [if_pos hw]
  refine ⟨v, fun w hC => ?_, hK _ h⟩
  unfold Oper.quietAt
  rw [hrun w hC]
  exact ⟨rfl, rfl⟩
theorem wpQuiet_call {ops : Array Oper} {rest : List Oper} {op : Oper} {a : Act} {Q : Act → Prop} {C : World → Prop} (f : FuncId) (args : Array Value) (v : Value) (hw : Region.wanted op (yielded ops a.tmps) = true) (hrun : ∀ w, (execOp a.eval op).run Tryz.prog w = .ok (.enter f args) w)
    (hcall : ∀ w, C w → Calls Tryz.prog f args w fun e w' => e = .returned v ∧ C w') (h : wpQuiet Tryz.prog ops C Q rest (a.put op.dst v)) : wpQuiet Tryz.prog ops C Q (op :: rest) a := by
  refine wpQuiet_step (fun K hK => ?_)
  rw [if_pos hw]
  refine ⟨v, fun w hC => ?_, hK _ h⟩
  unfold Oper.quietAt
  rw [hrun w]
  exact ⟨rfl, hcall w hC⟩
theorem wpQuiet_row {ops : Array Oper} {rest : List Oper} {op : Oper} {a : Act} {Q : Act → Prop} {C : World → Prop} {t : TypeId} {n b : Nat} {vs : List Value} (ht : RowT t n) (hl : vs.length = n) (x : Operand) (ho : op.op = .load t x) (hx : a.eval x = .pointer (some ⟨b, 0, none⟩)) (hw : Region.wanted op (yielded ops a.tmps) = true)
    (hC : ∀ w, C w → RowAt w b vs) (h : wpQuiet Tryz.prog ops C Q rest (a.put op.dst (.agg vs.toArray))) : wpQuiet Tryz.prog ops C Q (op :: rest) a := by
  refine wpQuiet_take (.agg vs.toArray) hw (fun w hc => ?_) h
  unfold execOp
  have := (hC w hc).loads ht hl
  simp only [ho, hx, Instr.loadAt, Instr.sureAddr, Sem.run_bind, Sem.run_pure, Result.andThen_ok, this]
theorem wpQuiet_page {ops : Array Oper} {rest : List Oper} {op : Oper} {a : Act} {Q : Act → Prop} {C : World → Prop} {b : Nat} {p : List UInt8} (x : Operand) (ho : op.op = .load 97 x) (hx : a.eval x = .pointer (some ⟨b, 0, none⟩)) (hw : Region.wanted op (yielded ops a.tmps) = true)
    (hC : ∀ w, C w → PageAt w b p) (h : wpQuiet Tryz.prog ops C Q rest (a.put op.dst (pageV p))) : wpQuiet Tryz.prog ops C Q (op :: rest) a := by
  refine wpQuiet_take (pageV p) hw (fun w hc => ?_) h
  unfold execOp
  have := (hC w hc).loads
  simp only [ho, hx, Instr.loadAt, Instr.sureAddr, Sem.run_bind, Sem.run_pure, Result.andThen_ok, this]
end

section
open Dk (zeros zeros_length)
open Go.RowKit
theorem wayT : RowT 192 3 := ⟨⟨_, Tryz.underlying192, rfl⟩, by kernel_rfl⟩
def wayL (d o n : Int) : List Value := [.int .i64 d, .int .i64 o, .int .i64 n]
theorem wayL_one (d o n : Int) : ∀ v ∈ wayL d o n, v.oneCell' = true := by
  intro v hv
  simp only [wayL, List.mem_cons, List.not_mem_nil, or_false] at hv
  rcases hv with rfl | rfl | rfl <;> rfl
def wayV (d o n : Int) : Value := .agg #[.int .i64 d, .int .i64 o, .int .i64 n]
theorem among_any (c i : Int) (w : World) : Calls Tryz.prog 154 #[.int .i64 c, .int .i64 i] w fun e w' => e = .returned (.bool (decide (0 ≤ i ∧ i < c))) ∧ w = w' := by
  go_enter Tryz.func154, Tryz.ntmps154
  by_cases c1 : 0 ≤ i
  · by_cases c2 : i < c
    · go_wp2
      go_ret
      exact ⟨ret_bool (by simp [c1, c2]), rfl⟩
    · go_wp2
      go_ret
      exact ⟨ret_bool (by simp; omega), rfl⟩
  · go_wp2
    go_ret
    exact ⟨ret_bool (by simp; omega), rfl⟩
theorem among_yes (c i : Int) (w : World) (h0 : 0 ≤ i) (h1 : i < c) : Calls Tryz.prog 154 #[.int .i64 c, .int .i64 i] w fun e w' => e = .returned (.bool true) ∧ w = w' := by
  have := among_any c i w
  rwa [decide_eq_true ⟨h0, h1⟩] at this
theorem among_no (c i : Int) (w : World) (h : ¬ (0 ≤ i ∧ i < c)) : Calls Tryz.prog 154 #[.int .i64 c, .int .i64 i] w fun e w' => e = .returned (.bool false) ∧ w = w' := by
  have := among_any c i w
  rwa [decide_eq_false h] at this
theorem way_end (w : World) (t : TypeId) (d o n : Int) : RowAt (w.alloc (.cells #[.int .i64 d, .int .i64 o, .int .i64 n] t)) w.heap.size (wayL d o n) := rowAt_new w (wayL d o n) t
def WhereGives (i : Int) (w : World) : Prop := Calls Tryz.prog 150 #[.int .i64 i] w fun e w' => e = .returned (.tuple #[wayV (Sp.dep i) (Sp.out i) (Sp.inn i), .bool (Sp.okB i)]) ∧ Below w.heap.size w w'
theorem where_no (i : Int) (w : World) (h : i < 0 ∨ 1060 ≤ i) : WhereGives i w := by
  unfold WhereGives
  obtain ⟨e0, e1, e2, e3⟩ := Sp.no_page h
  rw [e0, e1, e2, e3]
  clear e0 e1 e2 e3
  rcases h with h | h
  all_goals
    go_enter Tryz.func150, Tryz.ntmps150
    go_wp2
    exact bodyPost_ret (results_row2 wayT _ 2 3 rfl _ (way_end w _ 0 0 0) rfl rfl rfl) rfl ⟨rfl, (Below.refl _ _).alloc (Nat.le_refl _) _⟩
theorem where_0 (i : Int) (w : World) (h0 : 0 ≤ i) (h1 : i < 4) : WhereGives i w := by
  unfold WhereGives
  obtain ⟨e0, e1, e2, e3⟩ := Sp.page0 h0 h1
  rw [e0, e1, e2, e3]
  clear e0 e1 e2 e3
  have h2 : i < 1060 := by omega
  go_enter Tryz.func150, Tryz.ntmps150
  go_wp2
  exact bodyPost_ret (results_row2 wayT _ 2 3 rfl _ (way_end w _ 0 0 i) rfl rfl rfl) rfl ⟨rfl, (Below.refl _ _).alloc (Nat.le_refl _) _⟩
theorem where_1 (i : Int) (w : World) (h0 : 4 ≤ i) (h1 : i < 36) : WhereGives i w := by
  unfold WhereGives
  obtain ⟨e0, e1, e2, e3⟩ := Sp.page1 h0 h1
  rw [e0, e1, e2, e3]
  clear e0 e1 e2 e3
  have h2 : i < 1060 := by omega
  go_enter Tryz.func150, Tryz.ntmps150
  go_wp2
  exact bodyPost_ret (results_row2 wayT _ 2 3 rfl _ (way_end w _ 1 0 (i - 4)) rfl rfl rfl) rfl ⟨rfl, (Below.refl _ _).alloc (Nat.le_refl _) _⟩
theorem where_2 (i : Int) (w : World) (h0 : 36 ≤ i) (h1 : i < 1060) : WhereGives i w := by
  unfold WhereGives
  obtain ⟨e0, e1, e2, e3⟩ := Sp.page2 h0 h1
  rw [e0, e1, e2, e3]
  clear e0 e1 e2 e3
  go_enter Tryz.func150, Tryz.ntmps150
  go_wp2
  exact bodyPost_ret (results_row2 wayT _ 2 3 rfl _ (way_end w _ 2 ((i - 36) / 32) ((i - 36) % 32)) rfl rfl rfl) rfl ⟨rfl, (Below.refl _ _).alloc (Nat.le_refl _) _⟩
theorem where_any (i : Int) (w : World) : WhereGives i w := by
  rcases Sp.kinds i with c | ⟨c1, c2⟩ | ⟨c1, c2⟩ | ⟨c1, c2⟩
  · exact where_no i w c
  · exact where_0 i w c1 c2
  · exact where_1 i w c1 c2
  · exact where_2 i w c1 c2
end

section
open Go.RowKit
structure IntRow (w : World) (A : Option Addr) (n : Nat) (xs : List Int) : Prop where
  len : xs.length = n
  small : n ≤ maxLen
  cells : 0 < n → ∃ b off, A = some ⟨b, off, none⟩ ∧ b < w.heap.size ∧ ∀ i x, xs[i]? = some x → w.cell? ⟨b, off + i, none⟩ = some (.int .i64 x)
theorem IntRow.step {w w' : World} {A : Option Addr} {n : Nat} {xs : List Int} (h : IntRow w A n xs) (hb : Below w.heap.size w w') : IntRow w' A n xs where
  len := h.len
  small := h.small
  cells := fun h0 => by
    obtain ⟨b, off, rfl, hlt, hc⟩ := h.cells h0
    exact ⟨b, off, rfl, Nat.lt_of_lt_of_le hlt hb.size, fun i x hx => (hb.cell (p := ⟨b, off + i, none⟩) hlt).trans (hc i x hx)⟩
end

namespace Pl
def dataN (i : Int) : Int := 43 + (i + 1) / 2
def rightB (p i : Int) : Bool := decide (1 ≤ i ∧ i ≤ 128 ∧ p ≤ 512 ∧ dataN i < p)
theorem right_yes {p i : Int} (h : rightB p i = true) : 1 ≤ i ∧ i ≤ 128 ∧ p ≤ 512 ∧ dataN i < p := of_decide_eq_true h
theorem right_no {p i : Int} (h : rightB p i = false) : i < 1 ∨ 128 < i ∨ 512 < p ∨ p ≤ dataN i := by have := of_decide_eq_false h; omega
theorem right_not {p i : Int} (h : i < 1 ∨ 128 < i ∨ 512 < p ∨ p ≤ dataN i) : rightB p i = false := by
  unfold rightB; rw [decide_eq_false_iff_not]; omega
theorem data_bd {i : Int} (h1 : 1 ≤ i) (h2 : i ≤ 128) : 44 ≤ dataN i ∧ dataN i ≤ 107 := by unfold dataN; omega
def markB : List UInt8 := [78, 82, 84, 88]
def zero64 : List UInt8 := List.replicate 64 0
def superP (p i : Int) : List UInt8 := Pg.setN (Pg.setN (Pg.setTextN zero64 0 markB) 4 2 p) 6 2 i
theorem mark_length : (Pg.setTextN zero64 0 markB).length = 64 := Pg.setTextN_length _ _ _ (by simp [zero64])
theorem mid_length (p : Int) : (Pg.setN (Pg.setTextN zero64 0 markB) 4 2 p).length = 64 := Pg.setN_length _ _ _ _ mark_length
theorem super_length (p i : Int) : (superP p i).length = 64 := Pg.setN_length _ _ _ _ (mid_length p)
theorem super_get (p i : Int) (h1 : 0 ≤ p) (h2 : p < 65536) (h3 : 0 ≤ i) (h4 : i < 65536) : Pg.getN (superP p i) 4 2 = p ∧ Pg.getN (superP p i) 6 2 = i := by
  have e1 : ((superP p i).drop 4).take 2 = Pg.bytesN 2 p := by rfl
  have e2 : ((superP p i).drop 6).take 2 = Pg.bytesN 2 i := by rfl
  have n1 : Pg.numB 4 2 = true := by decide
  have n2 : Pg.numB 6 2 = true := by decide
  unfold Pg.getN
  rw [if_pos n1, if_pos n2]
  have f1 : ((superP p i).drop (4 : Int).toNat).take (2 : Int).toNat = Pg.bytesN 2 p := e1
  have f2 : ((superP p i).drop (6 : Int).toNat).take (2 : Int).toNat = Pg.bytesN 2 i := e2
  rw [f1, f2, Pg.numOf_bytesN, Pg.numOf_bytesN]
  constructor
  · exact Int.emod_eq_of_lt h1 (by omega)
  · exact Int.emod_eq_of_lt h3 (by omega)
theorem get_two (x : List UInt8) (hx : x.length = 64) (a : Nat) (ha : a ≤ 62) : Pg.getN x a 2 = ((x.getD a 0).toNat : Int) * 256 + ((x.getD (a + 1) 0).toNat : Int) := by
  unfold Pg.getN
  rw [if_pos (Pg.num_mk (by omega) (by omega) (by omega) (by omega))]
  have e : (x.drop (a : Int).toNat).take (2 : Int).toNat = [x.getD a 0, x.getD (a + 1) 0] := by
    rw [Int.toNat_natCast, show (2 : Int).toNat = 2 from rfl]
    rw [List.drop_eq_getElem_cons (show a < x.length by omega), List.drop_eq_getElem_cons (show a + 1 < x.length by omega)]
    rw [List.take_succ_cons, List.take_succ_cons, List.take_zero, List.getD_eq_getElem?_getD, List.getD_eq_getElem?_getD, List.getElem?_eq_getElem (show a < x.length by omega), List.getElem?_eq_getElem (show a + 1 < x.length by omega)]
    rfl
  rw [e]
  simp [Pg.numOf]
def readB (x : List UInt8) : Bool := rightB (Pg.getN x 4 2) (Pg.getN x 6 2) && decide (superP (Pg.getN x 4 2) (Pg.getN x 6 2) = x)
theorem read_super (p i : Int) (h : rightB p i = true) : readB (superP p i) = true ∧ Pg.getN (superP p i) 4 2 = p ∧ Pg.getN (superP p i) 6 2 = i := by
  obtain ⟨h1, h2, h3, h4⟩ := right_yes h
  have hd := data_bd h1 h2
  obtain ⟨e1, e2⟩ := super_get p i (by omega) (by omega) (by omega) (by omega)
  refine ⟨?_, e1, e2⟩
  unfold readB
  rw [e1, e2, h]
  simp
theorem get_bd (x : List UInt8) (a : Nat) (hx : x.length = 64) (ha : a ≤ 62) : 0 ≤ Pg.getN x a 2 ∧ Pg.getN x a 2 < 65536 := by
  rw [get_two x hx a ha]
  have := (x.getD a 0).toNat_lt
  have := (x.getD (a + 1) 0).toNat_lt
  omega
end Pl

namespace Ii
structure Ino where
  k : Int
  p : Int
  u : Int
  l : Int
  s : Int
  a : Int
  b : Int
  c : Int
  d : Int
  e : Int
  f : Int
def zero : Ino := ⟨0, 0, 0, 0, 0, 0, 0, 0, 0, 0, 0⟩
def Ino.dir (x : Ino) : Nat → Int
  | 0 => x.a
  | 1 => x.b
  | 2 => x.c
  | _ => x.d
def z32 : List UInt8 := List.replicate 32 0
theorem z32_length : z32.length = 32 := rfl
theorem over_drop (p : List UInt8) (a : Nat) (s : List UInt8) (h : a + s.length ≤ p.length) : ((Pg.over p a s).drop a).take s.length = s := Pg.over_back p a s h
theorem over_over (p : List UInt8) (a : Nat) (s : List UInt8) (j : Nat) (t : List UInt8) (h : a + s.length ≤ p.length) (hj : j + t.length ≤ s.length) :
    Pg.over (Pg.over p a s) (a + j) t = Pg.over p a (Pg.over s j t) := by
  apply List.ext_getElem?
  intro i
  have hl := Pg.over_length p a s h
  have hs := Pg.over_length s j t hj
  rw [Pg.over_at _ _ _ _ (by omega), Pg.over_at _ _ _ _ h, Pg.over_at _ _ _ _ (by omega), hs]
  by_cases h1 : i < a
  · rw [if_pos (by omega), if_pos h1, if_pos h1]
  · rw [if_neg h1, if_neg h1]
    obtain ⟨m, rfl⟩ : ∃ m, i = a + m := ⟨i - a, by omega⟩
    rw [show a + m - a = m by omega, show a + m - (a + j) = m - j by omega, Pg.over_at _ _ _ _ hj]
    by_cases h2 : m < j
    · rw [if_pos (by omega), if_pos (by omega), if_pos (by omega), if_pos h2]
    · rw [if_neg (by omega), if_neg h2]
      by_cases h3 : m < j + t.length
      · rw [if_pos (by omega), if_pos (by omega), if_pos h3]
      · rw [if_neg (by omega), if_neg h3]
theorem over_apart (p : List UInt8) (a : Nat) (s : List UInt8) (j n : Nat) (h : a + s.length ≤ p.length) (hj : j + n ≤ a ∨ a + s.length ≤ j) : ((Pg.over p a s).drop j).take n = (p.drop j).take n := by
  apply List.ext_getElem?
  intro i
  rw [List.getElem?_take, List.getElem?_take, List.getElem?_drop, List.getElem?_drop]
  by_cases h1 : i < n
  · rw [if_pos h1, if_pos h1, Pg.over_at _ _ _ _ h]
    rcases hj with hj | hj
    · rw [if_pos (by omega)]
    · rw [if_neg (by omega), if_neg (by omega)]
  · rw [if_neg h1, if_neg h1]
theorem part_part (p : List UInt8) (a m j n : Nat) (h : j + n ≤ m) : (((p.drop a).take m).drop j).take n = (p.drop (a + j)).take n := by
  apply List.ext_getElem?
  intro i
  rw [List.getElem?_take, List.getElem?_take, List.getElem?_drop, List.getElem?_drop, List.getElem?_take, List.getElem?_drop]
  by_cases h1 : i < n
  · rw [if_pos h1, if_pos h1, if_pos (by omega), Nat.add_assoc]
  · rw [if_neg h1, if_neg h1]
def half (x : Ino) : List UInt8 := Pg.bytesN 1 x.k ++ (0 :: (Pg.bytesN 2 x.p ++ (Pg.bytesN 2 x.u ++ (Pg.bytesN 2 x.l ++ (Pg.bytesN 4 x.s ++ (Pg.bytesN 2 x.a ++ (Pg.bytesN 2 x.b ++ (Pg.bytesN 2 x.c ++ (Pg.bytesN 2 x.d ++ (Pg.bytesN 2 x.e ++ (Pg.bytesN 2 x.f ++ List.replicate 8 0)))))))))))
theorem half_length (x : Ino) : (half x).length = 32 := rfl
def headP (p : List UInt8) (A : Int) (x : Ino) : List UInt8 := Pg.setN (Pg.setN (Pg.setN (Pg.setN (Pg.setN (Pg.over p A.toNat z32) A 1 x.k) (A + 2) 2 x.p) (A + 4) 2 x.u) (A + 6) 2 x.l) (A + 8) 4 x.s
def dirP (p : List UInt8) (A : Int) (x : Ino) : Nat → List UInt8
  | 0 => headP p A x
  | j + 1 => Pg.setN (dirP p A x j) (A + 12 + 2 * (j : Int)) 2 (x.dir j)
def putN (p : List UInt8) (A : Int) (x : Ino) : List UInt8 := Pg.setN (Pg.setN (dirP p A x 4) (A + 20) 2 x.e) (A + 22) 2 x.f
theorem set_half (p : List UInt8) (A : Nat) (s : List UInt8) (j n : Nat) (v : Int) (hp : p.length = 64) (hA : A + 32 ≤ 64) (hs : s.length = 32) (h1 : 1 ≤ n) (h2 : n ≤ 4) (h3 : j + n ≤ 32) :
    Pg.setN (Pg.over p A s) ((A : Int) + (j : Int)) (n : Int) v = Pg.over p A (Pg.over s j (Pg.bytesN n v)) := by
  unfold Pg.setN
  rw [if_pos (Pg.num_mk (by omega) (by omega) (by omega) (by omega))]
  rw [show ((A : Int) + (j : Int)).toNat = A + j by omega, show (n : Int).toNat = n by omega]
  exact over_over p A s j _ (by omega) (by rw [Pg.bytesN_length]; omega)
theorem over_half_length (s : List UInt8) (j n : Nat) (v : Int) (hs : s.length = 32) (h : j + n ≤ 32) : (Pg.over s j (Pg.bytesN n v)).length = 32 := by
  rw [Pg.over_length _ _ _ (by rw [Pg.bytesN_length]; omega), hs]
theorem step_half {p q s : List UInt8} {A : Nat} (hp : p.length = 64) (hA : A + 32 ≤ 64) (h : q = Pg.over p A s ∧ s.length = 32) (j n : Nat) (v : Int) (h1 : 1 ≤ n) (h2 : n ≤ 4) (h3 : j + n ≤ 32) :
    Pg.setN q ((A : Int) + (j : Int)) (n : Int) v = Pg.over p A (Pg.over s j (Pg.bytesN n v)) ∧ (Pg.over s j (Pg.bytesN n v)).length = 32 := by
  obtain ⟨rfl, hs⟩ := h
  exact ⟨set_half p A s j n v hp hA hs h1 h2 h3, over_half_length s j n v hs h3⟩
theorem putN_is (p : List UInt8) (A : Nat) (x : Ino) (hp : p.length = 64) (hA : A + 32 ≤ 64) : putN p (A : Int) x = Pg.over p A (half x) := by
  have e0 : Pg.over p (A : Int).toNat z32 = Pg.over p A z32 ∧ z32.length = 32 := ⟨rfl, rfl⟩
  have e1 := step_half hp hA e0 0 1 x.k (by omega) (by omega) (by omega)
  have e2 := step_half hp hA e1 2 2 x.p (by omega) (by omega) (by omega)
  have e3 := step_half hp hA e2 4 2 x.u (by omega) (by omega) (by omega)
  have e4 := step_half hp hA e3 6 2 x.l (by omega) (by omega) (by omega)
  have e5 := step_half hp hA e4 8 4 x.s (by omega) (by omega) (by omega)
  have e6 := step_half hp hA e5 12 2 x.a (by omega) (by omega) (by omega)
  have e7 := step_half hp hA e6 14 2 x.b (by omega) (by omega) (by omega)
  have e8 := step_half hp hA e7 16 2 x.c (by omega) (by omega) (by omega)
  have e9 := step_half hp hA e8 18 2 x.d (by omega) (by omega) (by omega)
  have e10 := step_half hp hA e9 20 2 x.e (by omega) (by omega) (by omega)
  have e11 := step_half hp hA e10 22 2 x.f (by omega) (by omega) (by omega)
  exact e11.1
theorem headP_length (p : List UInt8) (A : Int) (x : Ino) (hp : p.length = 64) (hA : A.toNat + 32 ≤ 64) : (headP p A x).length = 64 := by
  unfold headP
  refine Pg.setN_length _ _ _ _ (Pg.setN_length _ _ _ _ (Pg.setN_length _ _ _ _ (Pg.setN_length _ _ _ _ (Pg.setN_length _ _ _ _ ?_))))
  rw [Pg.over_length _ _ _ (by rw [z32_length]; omega), hp]
theorem dirP_length (p : List UInt8) (A : Int) (x : Ino) (hp : p.length = 64) (hA : A.toNat + 32 ≤ 64) (j : Nat) : (dirP p A x j).length = 64 := by
  induction j with
  | zero => exact headP_length p A x hp hA
  | succ j ih => exact Pg.setN_length _ _ _ _ ih
theorem putN_length (p : List UInt8) (A : Int) (x : Ino) (hp : p.length = 64) (hA : A.toNat + 32 ≤ 64) : (putN p A x).length = 64 :=
  Pg.setN_length _ _ _ _ (Pg.setN_length _ _ _ _ (dirP_length p A x hp hA 4))
def getI (p : List UInt8) (A : Int) : Ino :=
  ⟨Pg.getN p A 1, Pg.getN p (A + 2) 2, Pg.getN p (A + 4) 2, Pg.getN p (A + 6) 2, Pg.getN p (A + 8) 4, Pg.getN p (A + 12) 2, Pg.getN p (A + 14) 2, Pg.getN p (A + 16) 2, Pg.getN p (A + 18) 2, Pg.getN p (A + 20) 2, Pg.getN p (A + 22) 2⟩
def readH (h : List UInt8) : Ino :=
  ⟨Pg.numOf ((h.drop 0).take 1), Pg.numOf ((h.drop 2).take 2), Pg.numOf ((h.drop 4).take 2), Pg.numOf ((h.drop 6).take 2), Pg.numOf ((h.drop 8).take 4), Pg.numOf ((h.drop 12).take 2), Pg.numOf ((h.drop 14).take 2), Pg.numOf ((h.drop 16).take 2), Pg.numOf ((h.drop 18).take 2), Pg.numOf ((h.drop 20).take 2), Pg.numOf ((h.drop 22).take 2)⟩
theorem get_half (p : List UInt8) (A j n : Nat) (hA : A + 32 ≤ 64) (h1 : 1 ≤ n) (h2 : n ≤ 4) (h3 : j + n ≤ 32) : Pg.getN p ((A : Int) + (j : Int)) (n : Int) = Pg.numOf ((((p.drop A).take 32).drop j).take n) := by
  unfold Pg.getN
  rw [if_pos (Pg.num_mk (by omega) (by omega) (by omega) (by omega)), part_part _ _ _ _ _ h3]
  rw [show ((A : Int) + (j : Int)).toNat = A + j by omega, show (n : Int).toNat = n by omega]
theorem getI_is (p : List UInt8) (A : Nat) (hA : A + 32 ≤ 64) : getI p (A : Int) = readH ((p.drop A).take 32) := by
  have g := fun j n h1 h2 h3 => get_half p A j n hA h1 h2 h3
  have g0 : Pg.getN p (A : Int) 1 = _ := g 0 1 (by omega) (by omega) (by omega)
  have g1 : Pg.getN p ((A : Int) + 2) 2 = _ := g 2 2 (by omega) (by omega) (by omega)
  have g2 : Pg.getN p ((A : Int) + 4) 2 = _ := g 4 2 (by omega) (by omega) (by omega)
  have g3 : Pg.getN p ((A : Int) + 6) 2 = _ := g 6 2 (by omega) (by omega) (by omega)
  have g4 : Pg.getN p ((A : Int) + 8) 4 = _ := g 8 4 (by omega) (by omega) (by omega)
  have g5 : Pg.getN p ((A : Int) + 12) 2 = _ := g 12 2 (by omega) (by omega) (by omega)
  have g6 : Pg.getN p ((A : Int) + 14) 2 = _ := g 14 2 (by omega) (by omega) (by omega)
  have g7 : Pg.getN p ((A : Int) + 16) 2 = _ := g 16 2 (by omega) (by omega) (by omega)
  have g8 : Pg.getN p ((A : Int) + 18) 2 = _ := g 18 2 (by omega) (by omega) (by omega)
  have g9 : Pg.getN p ((A : Int) + 20) 2 = _ := g 20 2 (by omega) (by omega) (by omega)
  have g10 : Pg.getN p ((A : Int) + 22) 2 = _ := g 22 2 (by omega) (by omega) (by omega)
  unfold getI readH
  rw [g0, g1, g2, g3, g4, g5, g6, g7, g8, g9, g10]
def fitsB (x : Ino) : Prop := (0 ≤ x.k ∧ x.k < 256) ∧ (0 ≤ x.p ∧ x.p < 65536) ∧ (0 ≤ x.u ∧ x.u < 65536) ∧ (0 ≤ x.l ∧ x.l < 65536) ∧ (0 ≤ x.s ∧ x.s < 4294967296) ∧ (0 ≤ x.a ∧ x.a < 65536) ∧ (0 ≤ x.b ∧ x.b < 65536) ∧ (0 ≤ x.c ∧ x.c < 65536) ∧ (0 ≤ x.d ∧ x.d < 65536) ∧ (0 ≤ x.e ∧ x.e < 65536) ∧ (0 ≤ x.f ∧ x.f < 65536)
theorem fit2 {v : Int} (h : 0 ≤ v ∧ v < 65536) : Pg.numOf (Pg.bytesN 2 v) = v := by
  rw [Pg.numOf_bytesN]
  exact Int.emod_eq_of_lt h.1 h.2
theorem fit1 {v : Int} (h : 0 ≤ v ∧ v < 256) : Pg.numOf (Pg.bytesN 1 v) = v := by
  rw [Pg.numOf_bytesN]
  exact Int.emod_eq_of_lt h.1 h.2
theorem fit4 {v : Int} (h : 0 ≤ v ∧ v < 4294967296) : Pg.numOf (Pg.bytesN 4 v) = v := by
  rw [Pg.numOf_bytesN]
  exact Int.emod_eq_of_lt h.1 h.2
theorem read_half (x : Ino) (h : fitsB x) : readH (half x) = x := by
  obtain ⟨h0, h1, h2, h3, h4, h5, h6, h7, h8, h9, h10⟩ := h
  have e : readH (half x) = ⟨Pg.numOf (Pg.bytesN 1 x.k), Pg.numOf (Pg.bytesN 2 x.p), Pg.numOf (Pg.bytesN 2 x.u), Pg.numOf (Pg.bytesN 2 x.l), Pg.numOf (Pg.bytesN 4 x.s), Pg.numOf (Pg.bytesN 2 x.a), Pg.numOf (Pg.bytesN 2 x.b), Pg.numOf (Pg.bytesN 2 x.c), Pg.numOf (Pg.bytesN 2 x.d), Pg.numOf (Pg.bytesN 2 x.e), Pg.numOf (Pg.bytesN 2 x.f)⟩ := rfl
  rw [e, fit1 h0, fit2 h1, fit2 h2, fit2 h3, fit4 h4, fit2 h5, fit2 h6, fit2 h7, fit2 h8, fit2 h9, fit2 h10]
theorem get_put (p : List UInt8) (A : Nat) (x : Ino) (hp : p.length = 64) (hA : A + 32 ≤ 64) (h : fitsB x) : getI (putN p (A : Int) x) (A : Int) = x := by
  rw [putN_is p A x hp hA, getI_is _ _ hA, show 32 = (half x).length from rfl, over_drop p A (half x) (by rw [half_length]; omega), read_half x h]
theorem get_other (p : List UInt8) (A B : Nat) (x : Ino) (hp : p.length = 64) (hA : A + 32 ≤ 64) (hB : B + 32 ≤ 64) (hd : B + 32 ≤ A ∨ A + 32 ≤ B) : getI (putN p (A : Int) x) (B : Int) = getI p (B : Int) := by
  rw [putN_is p A x hp hA, getI_is _ _ hB, getI_is _ _ hB, over_apart p A (half x) B 32 (by rw [half_length]; omega) (by rw [half_length]; omega)]
def numB (p i n : Int) : Bool := decide (n = 0 ∨ (Pl.dataN i ≤ n ∧ n < p))
def zeroB (x : Ino) : Bool := decide (x.k = 0 ∧ x.p = 0 ∧ x.u = 0 ∧ x.l = 0 ∧ x.s = 0 ∧ x.a = 0 ∧ x.b = 0 ∧ x.c = 0 ∧ x.d = 0 ∧ x.e = 0 ∧ x.f = 0)
end Ii

section
open Dk (zeros zeros_length)
open Go.RowKit
theorem planT : RowT 68 2 := ⟨⟨_, Tryz.underlying68, rfl⟩, by kernel_rfl⟩
def planL (p i : Int) : List Value := [.int .i64 p, .int .i64 i]
theorem planL_one (p i : Int) : ∀ v ∈ planL p i, v.oneCell' = true := by
  intro v hv
  simp only [planL, List.mem_cons, List.not_mem_nil, or_false] at hv
  rcases hv with rfl | rfl <;> rfl
def planV (p i : Int) : Value := .agg #[.int .i64 p, .int .i64 i]
theorem dataAt_any (i : Int) (w : World) (h1 : 0 ≤ i) (h2 : i ≤ 1000) :
    Calls Tryz.prog 138 #[.int .i64 i] w fun e w' => e = .returned (.int .i64 (Pl.dataN i)) ∧ w = w' := by
  go_enter Tryz.func138, Tryz.ntmps138
  go_wp2
  go_ret
  exact ⟨ret_int (by unfold Pl.dataN; omega), rfl⟩
theorem lbelow_drewN (N : Nat) (w : World) (m : Nat) : Below N w (w.drewN m) := ⟨rfl, rfl, rfl, Nat.le_refl _, fun _ _ => rfl⟩
theorem lright_any (p i : Int) (w : World) :
    Calls Tryz.prog 95 #[planV p i] w fun e w' => e = .returned (.bool (Pl.rightB p i)) ∧ Below w.heap.size w w' := by
  have hb : Below w.heap.size w (w.alloc (.cells #[.int .i64 p, .int .i64 i] 68)) := (Below.refl _ _).alloc (Nat.le_refl _) _
  have HB := Lib.hid hb; clear hb
  unfold planV
  by_cases c1 : 1 ≤ i
  · have d1 : decide (1 ≤ i) = true := decide_eq_true c1
    by_cases c2 : i ≤ 128
    · have d2 : decide (i ≤ 128) = true := decide_eq_true c2
      by_cases c3 : p ≤ 512
      · have d3 : decide (p ≤ 512) = true := decide_eq_true c3
        have HC := Lib.hid (fun w => dataAt_any i w (by omega) (by omega))
        have HR : Hid (Pl.rightB p i = decide (Pl.dataN i < p)) := Lib.hid (by
          unfold Pl.rightB; rw [decide_eq_decide]; exact ⟨fun h => h.2.2.2, fun h => ⟨c1, c2, c3, h⟩⟩)
        rw [HR.out]
        clear c1 c2 c3
        go_enter Tryz.func95, Tryz.ntmps95
        go_wp2
        go_quiet ((go_at_call 138; refine Calls.quiet_of_same ((HC.out _).mono fun e w' h => ⟨h.1, h.2.symm⟩)))
        go_wp2
        go_ret
        exact ⟨rfl, HB.out.trans (lbelow_drewN _ _ _)⟩
      · have HR := Lib.hid (Pl.right_not (p := p) (i := i) (by omega))
        have d3 : decide (p ≤ 512) = false := decide_eq_false c3
        rw [HR.out]
        go_enter Tryz.func95, Tryz.ntmps95
        go_wp2
        go_quiet (fail)
        go_wp2
        go_ret
        exact ⟨rfl, HB.out.trans (lbelow_drewN _ _ _)⟩
    · have HR := Lib.hid (Pl.right_not (p := p) (i := i) (by omega))
      have d2 : decide (i ≤ 128) = false := decide_eq_false c2
      rw [HR.out]
      go_enter Tryz.func95, Tryz.ntmps95
      go_wp2
      go_quiet (fail)
      go_wp2
      go_ret
      exact ⟨rfl, HB.out.trans (lbelow_drewN _ _ _)⟩
  · have HR := Lib.hid (Pl.right_not (p := p) (i := i) (by omega))
    have d1 : decide (1 ≤ i) = false := decide_eq_false c1
    rw [HR.out]
    go_enter Tryz.func95, Tryz.ntmps95
    go_wp2
    go_quiet (fail)
    go_wp2
    go_ret
    exact ⟨rfl, HB.out.trans (lbelow_drewN _ _ _)⟩
theorem right_is (p i : Int) (b : Bool) (w : World) (h : Pl.rightB p i = b) :
    Calls Tryz.prog 95 #[planV p i] w fun e w' => e = .returned (.bool b) ∧ Below w.heap.size w w' := h ▸ lright_any p i w
theorem plan_box (w : World) (p i : Int) {w' : World} (hb : Below (w.heap.size + 1) (w.alloc (.cells #[.int .i64 p, .int .i64 i] 68)) w') :
    RowAt w' w.heap.size (planL p i) ∧ Below w.heap.size w w' ∧ w.heap.size < w'.heap.size := by
  have h := rowAt_new w (planL p i) 68
  have hs := hb.size
  simp at hs
  exact ⟨h.below hb (by omega), ((Below.refl _ _).alloc (Nat.le_refl _) _).trans (hb.mono (by omega)), by omega⟩
theorem ifRight_any (p i at1 : Int) (w : World) :
    Calls Tryz.prog 86 #[planV p i, .int .i64 at1] w fun e w' => e = .returned (.int .i64 (if Pl.rightB p i = true then at1 else 0)) ∧ Below w.heap.size w w' := by
  cases h : Pl.rightB p i
  all_goals
    unfold planV
    go_enter Tryz.func86, Tryz.ntmps86
    go_wp2_with (go_at_call 95; refine (right_is p i _ _ h).mono ?_; rintro e w' ⟨rfl, hb⟩)
    go_ret
    exact ⟨rfl, (plan_box w p i (by simpa using hb)).2.1⟩
end

section
open Dk (zeros zeros_length)
open Go.RowKit
open Ii (Ino)
theorem inoT : RowT 47 11 := ⟨⟨_, Tryz.underlying47, rfl⟩, by kernel_rfl⟩
def inoL (x : Ino) : List Value := [.int .i64 x.k, .int .i64 x.p, .int .i64 x.u, .int .i64 x.l, .int .i64 x.s, .int .i64 x.a, .int .i64 x.b, .int .i64 x.c, .int .i64 x.d, .int .i64 x.e, .int .i64 x.f]
theorem inoL_one (x : Ino) : ∀ v ∈ inoL x, v.oneCell' = true := by
  intro v hv
  simp only [inoL, List.mem_cons, List.not_mem_nil, or_false] at hv
  rcases hv with rfl | rfl | rfl | rfl | rfl | rfl | rfl | rfl | rfl | rfl | rfl <;> rfl
def inoV (x : Ino) : Value := .agg #[.int .i64 x.k, .int .i64 x.p, .int .i64 x.u, .int .i64 x.l, .int .i64 x.s, .int .i64 x.a, .int .i64 x.b, .int .i64 x.c, .int .i64 x.d, .int .i64 x.e, .int .i64 x.f]
theorem cellsI : Tryz.prog.cellsOf 3 = 1 := by kernel_rfl
def intVals (l : List Int) : List Value := l.map fun n => Value.int .i64 n
structure PutS (w0 : World) (q z : List UInt8) (x : Ino) (W : World) : Prop where
  page : PageAt W w0.heap.size q
  ino : RowAt W (w0.heap.size + 1) (inoL x)
  out : PageAt W (w0.heap.size + 2) z
  below : Below w0.heap.size w0 W
theorem PutS.call {w0 : World} {q z : List UInt8} {x : Ino} {W W' : World} (k : PutS w0 q z x W) (hb : Below W.heap.size W W') : PutS w0 q z x W' :=
  ⟨k.page.step hb, RowAt.step k.ino hb, k.out.step hb, k.below.trans (hb.mono k.below.size)⟩
theorem PutS.store {w0 : World} {q z p : List UInt8} {x : Ino} {W : World} (k : PutS w0 q z x W) (hp : p.length = 64) : PutS w0 p z x (W.setCells w0.heap.size 0 (byteVals p)) :=
  ⟨k.page.put p hp, k.ino.put_other _ _ _ (by omega), k.out.put_other _ _ _ (by omega), below_setCells _ (Nat.le_refl _) _ _ _ k.below⟩
theorem PutS.back {w0 : World} {q z p : List UInt8} {x : Ino} {W : World} (k : PutS w0 q z x W) (hp : p.length = 64) : PageAt (W.setCells (w0.heap.size + 2) 0 (byteVals p)) (w0.heap.size + 2) p ∧ Below w0.heap.size w0 (W.setCells (w0.heap.size + 2) 0 (byteVals p)) :=
  ⟨k.out.put p hp, below_setCells _ (by omega) _ _ _ k.below⟩
theorem putS_box (w : World) (p : List UInt8) (x : Ino) (t : TypeId) (hp : p.length = 64) :
    PutS w p zeros x (((w.alloc (.cells (byteVals p).toArray 97)).alloc (.cells (inoL x).toArray t)).alloc (.cells zeroCells 97)) where
  page := ((pageAt_new w p _ hp).alloc _).alloc _
  ino := by
    have h := (rowAt_new (w.alloc (.cells (byteVals p).toArray 97)) (inoL x) t).alloc (.cells zeroCells 97)
    rw [World.size_alloc] at h
    exact h
  out := by
    have h := pageAt_zeros ((w.alloc (.cells (byteVals p).toArray 97)).alloc (.cells (inoL x).toArray t)) 97
    rw [World.size_alloc, World.size_alloc] at h
    exact h
  below := (((Below.refl _ _).alloc (Nat.le_refl _) _).alloc (by simp) _).alloc (by simp; omega) _
theorem wpList_store_put {ops : Array Oper} {rest : List Oper} {op : Oper} {a : Act} {Q : Exit → Act → World → Prop} {w0 W : World} {q z p : List UInt8} {x : Ino} (k : PutS w0 q z x W) (hp : p.length = 64) (hgd : op.guard = none) (u v : Operand) (ho : op.op = .store 97 u v)
    (hx : a.eval u = .pointer (some ⟨w0.heap.size, 0, none⟩)) (hy : a.eval v = pageV p) (h : ∀ W2, PutS w0 p z x W2 → wpList Tryz.prog ops Q rest (a.put op.dst undef) W2) : wpList Tryz.prog ops Q (op :: rest) a W :=
  wpList_store_page k.page hp hgd u v ho hx hy (h _ (k.store hp))
end

section
open Dk (zeros zeros_length)
open Go.RowKit
end

section
open Dk (zeros zeros_length)
open Go.RowKit
def numN (p : List UInt8) (i : Int) : Int := if 0 ≤ i ∧ i < 32 then Pg.getN p (2 * i) 2 else 0
def setNum (p : List UInt8) (i n : Int) : List UInt8 := if 0 ≤ i ∧ i < 32 then Pg.setN p (2 * i) 2 n else p
theorem setNum_length (p : List UInt8) (i n : Int) (h : p.length = 64) : (setNum p i n).length = 64 := by
  unfold setNum
  split
  · exact Pg.setN_length _ _ _ _ h
  · exact h
theorem number_any (p : List UInt8) (i : Int) (w : World) (hp : p.length = 64) :
    Calls Tryz.prog 113 #[pageV p, .int .i64 i] w fun e w' => e = .returned (.int .i64 (numN p i)) ∧ Below w.heap.size w w' := by
  have HP := Lib.hid (pageAt_new w p 97 hp)
  have HB : Hid (Below w.heap.size w (w.alloc (.cells (byteVals p).toArray 97))) := Lib.hid ((Below.refl _ _).alloc (Nat.le_refl _) _)
  by_cases c : 0 ≤ i ∧ i < 32
  · have HG : Hid (∀ w, Calls Tryz.prog 142 #[pageV p, .int .i64 (i * 2), .int .i64 2] w fun e w' => e = .returned (.int .i64 (numN p i)) ∧ Below w.heap.size w w') := Lib.hid (fun w => by
      have := get_any p (i * 2) 2 w hp (by omega) (by omega)
      unfold numN
      rw [if_pos c, Int.mul_comm 2 i]
      exact this)
    generalize numN p i = x at HG ⊢
    have HA := Lib.hid (fun w => among_yes 32 i w c.1 c.2)
    obtain ⟨c1, c2⟩ := c
    clear hp
    have w1 : IntKind.i64.wrap (i * 2) = i * 2 := IntWalk.i64_in _ (by omega)
    unfold pageV
    go_enter Tryz.func113, Tryz.ntmps113
    go_wp2_with fail
    generalize w.alloc (.cells (byteVals p).toArray 97) = w0 at HP HB ⊢
    generalize w.heap.size = D at HP ⊢
    refine (HA.out _).mono ?_
    rintro e w' ⟨rfl, rfl⟩
    go_wp2_with (first
      | (with_reducible refine wpList_load_page HP.out rfl (.tmp 2) rfl rfl ?_)
      | (go_at_call 142; (with_reducible refine (HG.out _).mono ?_); rintro e w2 ⟨rfl, hb⟩))
    go_ret
    exact ⟨rfl, HB.out.trans (hb.mono HB.out.size)⟩
  · have HE : Hid (numN p i = 0) := Lib.hid (by unfold numN; rw [if_neg c])
    have HA := Lib.hid (fun w => among_no 32 i w c)
    rw [HE.out]
    clear hp c HE
    unfold pageV
    go_enter Tryz.func113, Tryz.ntmps113
    go_wp2_with (go_at_call 154; (with_reducible refine (HA.out _).mono ?_); rintro e w' ⟨rfl, rfl⟩)
    go_ret
    exact ⟨rfl, HB.out⟩
theorem setNumber_any (p : List UInt8) (i n : Int) (w : World) (hp : p.length = 64) :
    Calls Tryz.prog 114 #[pageV p, .int .i64 i, .int .i64 n] w fun e w' => e = .returned (pageV (setNum p i n)) ∧ Below w.heap.size w w' := by
  have HS := Lib.hid (set_start w p hp)
  by_cases c : 0 ≤ i ∧ i < 32
  · have hq := setNum_length p i n hp
    have HG : Hid (∀ w, Calls Tryz.prog 96 #[pageV p, .int .i64 (i * 2), .int .i64 2, .int .i64 n] w fun e w' => e = .returned (pageV (setNum p i n)) ∧ Below w.heap.size w w') := Lib.hid (fun w => by
      have := set_any p (i * 2) 2 n w hp (by omega) (by omega)
      unfold setNum
      rw [if_pos c, Int.mul_comm 2 i]
      exact this)
    generalize setNum p i n = q at HG hq ⊢
    have HQ := Lib.hid hq
    have HA := Lib.hid (fun w => among_yes 32 i w c.1 c.2)
    obtain ⟨c1, c2⟩ := c
    clear hp hq
    have w1 : IntKind.i64.wrap (i * 2) = i * 2 := IntWalk.i64_in _ (by omega)
    unfold pageV
    go_enter Tryz.func114, Tryz.ntmps114
    go_wp2_with fail
    refine (HA.out _).mono ?_
    rintro e w' ⟨rfl, rfl⟩
    rw [← zeroCells_def]
    generalize (w.alloc (.cells (byteVals p).toArray 97)).alloc (.cells zeroCells 97) = w1 at HS ⊢
    go_wp2_with (first
      | (with_reducible refine wpList_load_page HS.out.1 rfl (.tmp 3) rfl rfl ?_)
      | (go_at_call 96; (with_reducible refine (HG.out _).mono ?_); rintro e w2 ⟨rfl, hb⟩; have Z := Lib.hid (HS.out.2.1.step hb); have B := Lib.hid (HS.out.2.2.trans (hb.mono HS.out.2.2.size)); clear hb)
      | (with_reducible refine wpList_store_page Z.out HQ.out rfl (.tmp 6) (.tmp 15) rfl rfl rfl ?_))
    exact bodyPost_ret (results_page _ 6 rfl _ (Z.out.put _ HQ.out) rfl) rfl ⟨rfl, below_setCells _ (by omega) _ _ _ B.out⟩
  · have HE : Hid (setNum p i n = p) := Lib.hid (by unfold setNum; rw [if_neg c])
    have HA := Lib.hid (fun w => among_no 32 i w c)
    have HL := Lib.hid hp
    rw [HE.out]
    clear hp c HE
    unfold pageV
    go_enter Tryz.func114, Tryz.ntmps114
    go_wp2_with fail
    refine (HA.out _).mono ?_
    rintro e w' ⟨rfl, rfl⟩
    rw [← zeroCells_def]
    generalize (w.alloc (.cells (byteVals p).toArray 97)).alloc (.cells zeroCells 97) = w1 at HS ⊢
    go_wp2_with (first
      | (with_reducible refine wpList_load_page HS.out.1 rfl (.tmp 3) rfl rfl ?_)
      | (with_reducible refine wpList_store_page HS.out.2.1 HL.out rfl (.tmp 6) (.tmp 10) rfl rfl rfl ?_))
    exact bodyPost_ret (results_page _ 6 rfl _ (HS.out.2.1.put _ HL.out) rfl) rfl ⟨rfl, below_setCells _ (by omega) _ _ _ HS.out.2.2⟩
end

namespace Bt
def bit (bs : List UInt8) (i : Nat) : Bool := (bs.getD (i / 8) 0).toNat.testBit (i % 8)
theorem bit_far (bs : List UInt8) (i : Nat) (h : 8 * bs.length ≤ i) : bit bs i = false := by
  unfold bit
  rw [List.getD_eq_getElem?_getD, List.getElem?_eq_none (by omega)]
  exact Nat.zero_testBit _
def getB (bs : List UInt8) (i : Int) : Bool := if 0 ≤ i then bit bs i.toNat else false
theorem getB_nat (bs : List UInt8) (i : Nat) : getB bs (i : Int) = bit bs i := by
  unfold getB; rw [if_pos (by omega), Int.toNat_natCast]
theorem getB_no (bs : List UInt8) (n : Nat) (hl : bs.length = 64 * n) (i : Int) (h : ¬ (0 ≤ i ∧ i < (n : Int) * 512)) : getB bs i = false := by
  unfold getB
  split
  · exact bit_far bs _ (by omega)
  · rfl
theorem pow8 (k : Nat) (h : k < 8) : 2 ^ k < 256 := by
  have := Nat.pow_lt_pow_right (a := 2) (by omega) h
  simpa using this
def pw (k : Nat) : Nat := 2 ^ k
theorem pw_def (k : Nat) : pw k = 2 ^ k := rfl
theorem pw_lt (k : Nat) (h : k < 8) : pw k < 256 := pow8 k h
theorem and_bit (x k : Nat) : (x &&& 2 ^ k = 0) ↔ x.testBit k = false := by
  constructor
  · intro h
    have e : (x &&& 2 ^ k).testBit k = false := by rw [h]; exact Nat.zero_testBit _
    rw [Nat.testBit_and, Nat.testBit_two_pow] at e
    simpa using e
  · intro h
    refine Nat.eq_of_testBit_eq fun j => ?_
    rw [Nat.testBit_and, Nat.testBit_two_pow, Nat.zero_testBit]
    by_cases e : k = j
    · rw [← e, h]; rfl
    · simp [e]
def byteSet (c : UInt8) (k : Nat) (on : Bool) : UInt8 := UInt8.ofNat (if on = true then c.toNat ||| 2 ^ k else c.toNat &&& (255 - 2 ^ k))
theorem byteSet_on (c : UInt8) (k : Nat) (h : k < 8) : ((byteSet c k true).toNat) = c.toNat ||| 2 ^ k := by
  unfold byteSet
  rw [if_pos rfl, UInt8.toNat_ofNat']
  have := c.toNat_lt
  exact Nat.mod_eq_of_lt (Nat.or_lt_two_pow (n := 8) (by omega) (pow8 k h))
theorem byteSet_off (c : UInt8) (k : Nat) : ((byteSet c k false).toNat) = c.toNat &&& (255 - 2 ^ k) := by
  unfold byteSet
  rw [if_neg (by simp), UInt8.toNat_ofNat']
  exact Nat.mod_eq_of_lt (Nat.and_lt_two_pow (n := 8) _ (by have := Nat.two_pow_pos k; omega))
theorem mask_bit (k j : Nat) (h : k < 8) : (255 - 2 ^ k).testBit j = (decide (j < 8) && !decide (k = j)) := by
  have e : 255 - 2 ^ k = 2 ^ 8 - (2 ^ k + 1) := by omega
  rw [e, Nat.testBit_two_pow_sub_succ (pow8 k h), Nat.testBit_two_pow]
theorem small_bit (c : UInt8) (j : Nat) (h : 8 ≤ j) : c.toNat.testBit j = false := by
  refine Nat.testBit_lt_two_pow (Nat.lt_of_lt_of_le c.toNat_lt ?_)
  exact Nat.pow_le_pow_right (by omega) h
theorem byteSet_bit (c : UInt8) (k j : Nat) (on : Bool) (h : k < 8) : (byteSet c k on).toNat.testBit j = if k = j then on else c.toNat.testBit j := by
  cases on with
  | true =>
    rw [byteSet_on c k h, Nat.testBit_or, Nat.testBit_two_pow]
    by_cases e : k = j
    · simp [e]
    · simp [e]
  | false =>
    rw [byteSet_off, Nat.testBit_and, mask_bit k j h]
    by_cases e : k = j
    · simp [e]
    · by_cases hj : j < 8
      · simp [e, hj]
      · rw [small_bit c j (by omega)]; simp [e]
def setBit (bs : List UInt8) (i : Nat) (on : Bool) : List UInt8 := bs.set (i / 8) (byteSet (bs.getD (i / 8) 0) (i % 8) on)
theorem setBit_length (bs : List UInt8) (i : Nat) (on : Bool) : (setBit bs i on).length = bs.length := List.length_set
def setB (bs : List UInt8) (i : Int) (on : Bool) : List UInt8 := if 0 ≤ i ∧ i < (8 * bs.length : Nat) then setBit bs i.toNat on else bs
theorem setB_length (bs : List UInt8) (i : Int) (on : Bool) : (setB bs i on).length = bs.length := by
  unfold setB; split
  · exact setBit_length ..
  · rfl
theorem setB_nat (bs : List UInt8) (i : Nat) (on : Bool) (h : i < 8 * bs.length) : setB bs (i : Int) on = setBit bs i on := by
  unfold setB; rw [if_pos ⟨by omega, by omega⟩, Int.toNat_natCast]
theorem setB_no (bs : List UInt8) (i : Int) (on : Bool) (h : ¬ (0 ≤ i ∧ i < (8 * bs.length : Nat))) : setB bs i on = bs := by
  unfold setB; rw [if_neg h]
theorem bit_set (bs : List UInt8) (i j : Nat) (on : Bool) (h : i < 8 * bs.length) : bit (setBit bs i on) j = if i = j then on else bit bs j := by
  unfold bit setBit
  have hi : i / 8 < bs.length := by omega
  by_cases e : i / 8 = j / 8
  · rw [← e, List.getD_eq_getElem?_getD, List.getElem?_set, if_pos rfl, if_pos hi, Option.getD_some, byteSet_bit _ _ _ _ (Nat.mod_lt _ (by omega))]
    by_cases e2 : i = j
    · rw [if_pos (by rw [e2]), if_pos e2]
    · rw [if_neg (by omega), if_neg e2]
  · rw [List.getD_eq_getElem?_getD, List.getElem?_set, if_neg e, if_neg (fun q => e (by rw [q])), ← List.getD_eq_getElem?_getD]
def among (bs : List UInt8) (on : Bool) (a b : Int) (i : Nat) : Bool := decide (a ≤ (i : Int)) && decide ((i : Int) < b) && (bit bs i == on)
def upto (bs : List UInt8) (on : Bool) (a b : Int) (k : Nat) : List Nat := (List.range k).filter (among bs on a b)
theorem upto_yes (bs : List UInt8) (on : Bool) (a b : Int) (k : Nat) (h : among bs on a b k = true) : upto bs on a b (k + 1) = upto bs on a b k ++ [k] := by
  unfold upto
  rw [List.range_succ, List.filter_append]
  simp [h]
theorem upto_no (bs : List UInt8) (on : Bool) (a b : Int) (k : Nat) (h : among bs on a b k = false) : upto bs on a b (k + 1) = upto bs on a b k := by
  unfold upto
  rw [List.range_succ, List.filter_append]
  simp [h]
theorem upto_low (bs : List UInt8) (on : Bool) (a b : Int) (k : Nat) (h : ∀ i, i < k → among bs on a b i = false) : upto bs on a b k = [] := by
  unfold upto
  rw [List.filter_eq_nil_iff]
  intro i hi
  rw [h i (List.mem_range.1 hi)]
  simp
theorem upto_more (bs : List UInt8) (on : Bool) (a b : Int) (k : Nat) : ∀ d, (∀ i, k ≤ i → i < k + d → among bs on a b i = false) → upto bs on a b (k + d) = upto bs on a b k
  | 0, _ => rfl
  | d + 1, h => by
    rw [← Nat.add_assoc, upto_no _ _ _ _ _ (h (k + d) (by omega) (by omega)), upto_more bs on a b k d (fun i h1 h2 => h i h1 (by omega))]
theorem upto_length (bs : List UInt8) (on : Bool) (a b : Int) (k : Nat) : (upto bs on a b k).length ≤ k := by
  have := List.length_filter_le (among bs on a b) (List.range k)
  rwa [List.length_range] at this
theorem upto_grows (bs : List UInt8) (on : Bool) (a b : Int) (k : Nat) : ∀ d, upto bs on a b k <+: upto bs on a b (k + d)
  | 0 => List.prefix_rfl
  | d + 1 => by
    refine (upto_grows bs on a b k d).trans ?_
    rw [← Nat.add_assoc]
    cases h : among bs on a b (k + d) with
    | true => rw [upto_yes _ _ _ _ _ h]; exact List.prefix_append _ _
    | false => rw [upto_no _ _ _ _ _ h]; exact List.prefix_rfl
theorem among_low (bs : List UInt8) (on : Bool) (a b : Int) (i : Nat) (h : (i : Int) < a) : among bs on a b i = false := by
  unfold among; rw [decide_eq_false (show ¬ a ≤ (i : Int) by omega)]; rfl
theorem among_high (bs : List UInt8) (on : Bool) (a b : Int) (i : Nat) (h : b ≤ (i : Int)) : among bs on a b i = false := by
  unfold among; rw [decide_eq_false (show ¬ (i : Int) < b by omega), Bool.and_false]; rfl
theorem among_in (bs : List UInt8) (on : Bool) (a b : Int) (i : Nat) (h1 : a ≤ (i : Int)) (h2 : (i : Int) < b) : among bs on a b i = (bit bs i == on) := by
  unfold among; rw [decide_eq_true h1, decide_eq_true h2]; rfl
def all (bs : List UInt8) (on : Bool) (a b : Int) : List Nat := upto bs on a b (8 * bs.length)
def lo (a : Int) : Nat := (max a 0).toNat
def hi (bs : List UInt8) (b : Int) : Int := min b (8 * bs.length : Nat)
theorem upto_start (bs : List UInt8) (on : Bool) (a b : Int) : upto bs on a b (lo a) = [] := by
  refine upto_low _ _ _ _ _ fun i hi => among_low _ _ _ _ _ ?_
  unfold lo at hi
  omega
theorem upto_end (bs : List UInt8) (on : Bool) (a b : Int) (k : Nat) (_h1 : lo a ≤ k) (h2 : hi bs b ≤ (k : Int)) (h3 : k ≤ 8 * bs.length ∨ k = lo a) : upto bs on a b k = all bs on a b := by
  unfold all
  rcases Nat.le_total k (8 * bs.length) with h | h
  · obtain ⟨d, hd⟩ := Nat.exists_eq_add_of_le h
    rw [hd, upto_more]
    intro i e1 e2
    refine among_high _ _ _ _ _ ?_
    unfold hi at h2
    omega
  · rcases h3 with h3 | h3
    · rw [Nat.le_antisymm h3 h]
    · rw [h3, upto_start]
      symm
      refine upto_low _ _ _ _ _ fun i hi => among_low _ _ _ _ _ ?_
      rw [h3] at h
      unfold lo at h
      omega
theorem upto_step (bs : List UInt8) (on : Bool) (a b : Int) (k : Nat) (h1 : lo a ≤ k) (h2 : (k : Int) < hi bs b) : among bs on a b k = (bit bs k == on) := by
  refine among_in _ _ _ _ _ ?_ ?_
  · unfold lo at h1; omega
  · unfold hi at h2; omega
theorem upto_pre (bs : List UInt8) (on : Bool) (a b : Int) (k : Nat) (h : k ≤ 8 * bs.length) : upto bs on a b k <+: all bs on a b := by
  obtain ⟨d, hd⟩ := Nat.exists_eq_add_of_le h
  unfold all
  rw [hd]
  exact upto_grows ..
def first (bs : List UInt8) (a b : Int) : Int := match all bs false a b with
  | [] => -1
  | i :: _ => (i : Int)
theorem first_none (bs : List UInt8) (a b : Int) (h : all bs false a b = []) : first bs a b = -1 := by unfold first; rw [h]
theorem first_some (bs : List UInt8) (a b : Int) (i : Nat) (h : [i] <+: all bs false a b) : first bs a b = (i : Int) := by
  obtain ⟨r, hr⟩ := h
  unfold first
  rw [← hr]; rfl
end Bt

namespace Fs
open Dk (zeros zeros_length)
open Ii (Ino)
abbrev View : Type := Nat → List UInt8
abbrev Out (α : Type) : Type := Except Int α × View × List Nat
def M (α : Type) : Type := View → Out α
def ret {α : Type} (a : α) : M α := fun V => (.ok a, V, [])
def fail {α : Type} (e : Int) : M α := fun V => (.error e, V, [])
def see {α : Type} (f : View → α) : M α := fun V => (.ok (f V), V, [])
def tell {α : Type} (f : View → Except Int α) : M α := fun V => (f V, V, [])
def upd (V : View) (i : Nat) (p : List UInt8) : View := fun j => if j = i then p else V j
def wr (i : Nat) (p : List UInt8) : M Unit := fun V => (.ok (), upd V i p, [i])
def andThen {α β : Type} (m : M α) (f : α → M β) : M β := fun V =>
  match m V with
  | (.ok a, V1, L1) => ((f a V1).1, (f a V1).2.1, L1 ++ (f a V1).2.2)
  | (.error e, V1, L1) => (.error e, V1, L1)
theorem andThen_ok {α β : Type} {m : M α} {f : α → M β} {V V1 : View} {a : α} {L1 : List Nat} (h : m V = (.ok a, V1, L1)) : andThen m f V = ((f a V1).1, (f a V1).2.1, L1 ++ (f a V1).2.2) := by
  unfold andThen; rw [h]
theorem andThen_err {α β : Type} {m : M α} {f : α → M β} {V V1 : View} {e : Int} {L1 : List Nat} (h : m V = (.error e, V1, L1)) : andThen m f V = (.error e, V1, L1) := by
  unfold andThen; rw [h]
theorem andThen_log {α β : Type} (m : M α) (f : α → M β) (V : View) : ∃ L, (andThen m f V).2.2 = (m V).2.2 ++ L := by
  unfold andThen
  rcases h : m V with ⟨r, V1, L1⟩
  cases r with
  | ok a => exact ⟨_, rfl⟩
  | error e => exact ⟨[], by simp⟩
theorem andThen_ret {α : Type} (m : M α) : andThen m ret = m := by
  funext V
  unfold andThen
  rcases h : m V with ⟨r, V1, L1⟩
  cases r with
  | ok a => simp [ret]
  | error e => rfl
theorem andThen_assoc {α β γ : Type} (m : M α) (f : α → M β) (g : β → M γ) : andThen (andThen m f) g = andThen m fun a => andThen (f a) g := by
  funext V
  unfold andThen
  rcases h : m V with ⟨r, V1, L1⟩
  cases r with
  | error e => rfl
  | ok a =>
    simp only
    rcases h2 : f a V1 with ⟨r2, V2, L2⟩
    cases r2 with
    | error e => rfl
    | ok b => simp
theorem ret_andThen {α β : Type} (a : α) (f : α → M β) : andThen (ret a) f = f a := by
  funext V
  unfold andThen ret
  simp
def tbl (i : Int) : Nat := (43 + (i - 1) / 2).toNat
def halfAt (i : Int) : Int := 32 * ((i - 1) % 2)
def inoAt (V : View) (i : Int) : Ino := if (Ii.getI (V (tbl i)) (halfAt i)).k = 0 then Ii.zero else Ii.getI (V (tbl i)) (halfAt i)
def takenF (I i : Int) (V : View) : Except Int Ino := if 1 ≤ i ∧ i ≤ I then (if (inoAt V i).k = 0 then .error 22 else .ok (inoAt V i)) else .error 22
def setI (i : Int) (x : Ino) : M Unit := fun V => if Ii.putN (V (tbl i)) (halfAt i) x = V (tbl i) then ret () V else wr (tbl i) (Ii.putN (V (tbl i)) (halfAt i) x) V
def isData (n I m : Int) : Prop := Pl.dataN I ≤ m ∧ m < n
instance (n I m : Int) : Decidable (isData n I m) := inferInstanceAs (Decidable (_ ∧ _))
def dataF (n I m : Int) (V : View) : Except Int (List UInt8) := if m = 0 then .ok zeros else if isData n I m then .ok (V m.toNat) else .error 5
def markM (at1 : Nat) (bit : Int) (on1 : Bool) : M Unit := fun V => wr at1 (Bt.setB (V at1) bit on1) V
def takeM (n I : Int) : M Int := andThen (see fun V => Bt.first (V 42) 0 (n - Pl.dataN I)) fun b =>
  if b < 0 then fail 28 else andThen (markM 42 b true) fun _ => andThen (wr (Pl.dataN I + b).toNat zeros) fun _ => ret (Pl.dataN I + b)
def firstN (x : Ino) (i : Int) : Int := if Sp.okB i = true then (if Sp.dep i = 0 then x.dir (Sp.inn i).toNat else if Sp.dep i = 1 then x.e else x.f) else 0
def placesN (i : Int) : List Int := if Sp.okB i = true then (if Sp.dep i = 0 then [] else if Sp.dep i = 1 then [Sp.inn i] else [Sp.out i, Sp.inn i]) else []
def setDir (x : Ino) (k : Nat) (m : Int) : Ino := match k with
  | 0 => { x with a := m } | 1 => { x with b := m } | 2 => { x with c := m } | _ => { x with d := m }
def setFirst (x : Ino) (i m : Int) : Ino := if Sp.dep i = 0 then setDir x (Sp.inn i).toNat m else if Sp.dep i = 1 then { x with e := m } else { x with f := m }
def goF (n I : Int) (V : View) : List Int → Int → Except Int Int
  | [], m => .ok m
  | k :: ks, m => match dataF n I m V with
    | .ok p => goF n I V ks (numN p k)
    | .error e => .error e
def findF (n I : Int) (x : Ino) (i : Int) (V : View) : Except Int Int := goF n I V (placesN i) (firstN x i)
def pageF (n I : Int) (x : Ino) (i : Int) (V : View) : Except Int (List UInt8) := match findF n I x i V with
  | .ok m => dataF n I m V
  | .error e => .error e
def goR (n I : Int) : List Int → Int → M Int
  | [], m => ret m
  | k :: ks, m => andThen (tell (dataF n I m)) fun p =>
    if numN p k = 0 then andThen (takeM n I) fun t => andThen (wr m.toNat (setNum p k t)) fun _ => goR n I ks t
    else goR n I ks (numN p k)
def reachM (n I : Int) (x : Ino) (i : Int) : M (Ino × Int) :=
  if firstN x i = 0 then andThen (takeM n I) fun m => andThen (goR n I (placesN i) m) fun t => ret (setFirst x i m, t)
  else andThen (goR n I (placesN i) (firstN x i)) fun t => ret (x, t)
structure Pc where
  idx : Nat
  at1 : Nat
  size : Nat
def pcs : Nat → Nat → Nat → List Pc
  | 0, _, _ => []
  | f + 1, off, n => if n = 0 then [] else ⟨off / 64, off % 64, min n (64 - off % 64)⟩ :: pcs f (off + min n (64 - off % 64)) (n - min n (64 - off % 64))
theorem pcs_same : ∀ (f g off n : Nat), n ≤ f → n ≤ g → pcs f off n = pcs g off n := by
  intro f
  induction f with
  | zero =>
    intro g off n h _
    obtain rfl : n = 0 := by omega
    cases g <;> rfl
  | succ f ih =>
    intro g off n h hg
    cases g with
    | zero =>
      obtain rfl : n = 0 := by omega
      rfl
    | succ g =>
      unfold pcs
      by_cases h0 : n = 0
      · rw [if_pos h0, if_pos h0]
      · rw [if_neg h0, if_neg h0, ih g _ _ (by omega) (by omega)]
def pieces (off n : Nat) : List Pc := pcs n off n
theorem pieces_zero (off : Nat) : pieces off 0 = [] := rfl
theorem pieces_step (off n : Nat) (h : n ≠ 0) : pieces off n = ⟨off / 64, off % 64, min n (64 - off % 64)⟩ :: pieces (off + min n (64 - off % 64)) (n - min n (64 - off % 64)) := by
  unfold pieces
  cases n with
  | zero => exact absurd rfl h
  | succ m =>
    rw [pcs, if_neg h, pcs_same m _ _ _ (by omega) (Nat.le_refl _)]
def readT (t1 : List UInt8) : Except Int (List UInt8) → Except Int (List UInt8)
  | .error e => .error e
  | .ok t => .ok (t1 ++ t)
def readC (t1 : Nat → Nat → List UInt8 → List UInt8) (c : Pc) (r : Except Int (List UInt8)) : Except Int (List UInt8) → Except Int (List UInt8)
  | .error e => .error e
  | .ok p => readT (t1 c.at1 c.size p) r
def textC (a n : Nat) (p : List UInt8) : List UInt8 := Pg.textN p (a : Int) (n : Int)
def readG (n I : Int) (x : Ino) (V : View) (cs : List Pc) : Except Int (List UInt8) := cs.foldr (fun c r => readC textC c r (pageF n I x (c.idx : Int) V)) (.ok [])
theorem readG_nil (n I : Int) (x : Ino) (V : View) : readG n I x V [] = .ok [] := rfl
theorem readG_cons (n I : Int) (x : Ino) (V : View) (c : Pc) (cs : List Pc) : readG n I x V (c :: cs) = readC textC c (readG n I x V cs) (pageF n I x (c.idx : Int) V) := by
  unfold readG
  rw [List.foldr_cons]
theorem readG_ok {n I : Int} {x : Ino} {V : View} {c : Pc} {cs : List Pc} {p : List UInt8} (h : pageF n I x c.idx V = .ok p) : readG n I x V (c :: cs) = readT (Pg.textN p c.at1 c.size) (readG n I x V cs) := by
  rw [readG_cons, h]
  unfold readC textC
  rfl
theorem readG_bad {n I : Int} {x : Ino} {V : View} {c : Pc} {cs : List Pc} {e : Int} (h : pageF n I x c.idx V = .error e) : readG n I x V (c :: cs) = .error e := by
  rw [readG_cons, h]
  unfold readC
  rfl
def readF (n I i off cnt : Int) (V : View) : Except Int (List UInt8) := match takenF I i V with
  | .error e => .error e
  | .ok x => if off < 0 ∨ cnt < 0 ∨ 67840 < cnt then .error 22 else readG n I x V (pieces off.toNat (min cnt (x.s - off)).toNat)
def wloop (n I : Int) : List Pc → Ino → List UInt8 → M Ino
  | [], x, _ => ret x
  | c :: cs, x, t => andThen (reachM n I x c.idx) fun z => andThen (tell (dataF n I z.2)) fun p => andThen (wr z.2.toNat (Pg.setTextN p c.at1 (t.take c.size))) fun _ => wloop n I cs z.1 (t.drop c.size)
def writeM (n I i off : Int) (t : List UInt8) : M Unit := andThen (tell (takenF I i)) fun x =>
  if off < 0 then fail 22 else if t = [] then ret () else if 67840 - (t.length : Int) < off then fail 27 else
  andThen (wloop n I (pieces off.toNat t.length) { x with s := max x.s (off + t.length) } t) fun y => setI i y
def cntU (c : Pgs) (L : List Nat) : Nat := (List.range c.length).countP fun i => (c.getD i none).isSome || L.contains i
def Dom (c c' : Pgs) (L : List Nat) : Prop := c'.length = c.length ∧ ∀ i, i < c.length → (c'.getD i none).isSome = ((c.getD i none).isSome || L.contains i)
theorem cntO_range (c : Pgs) : cntO c = (List.range c.length).countP fun i => (c.getD i none).isSome := by
  unfold cntO
  have e : c = (List.range c.length).map fun i => c.getD i none := by
    apply List.ext_getElem
    · simp
    · intro i h1 h2
      simp only [List.getElem_map, List.getElem_range]
      rw [List.getD_eq_getElem?_getD, List.getElem?_eq_getElem h1]; rfl
  conv => lhs; rw [e]
  rw [List.countP_map]; rfl
theorem cntU_nil (c : Pgs) : cntU c [] = cntO c := by
  rw [cntO_range]
  unfold cntU
  congr 1
  funext i
  simp
theorem Dom.cntU {c c' : Pgs} {L : List Nat} (h : Dom c c' L) (L2 : List Nat) : cntU c' L2 = cntU c (L ++ L2) := by
  unfold Fs.cntU
  rw [h.1]
  apply List.countP_congr
  intro i hi
  rw [List.mem_range] at hi
  rw [h.2 i hi]
  simp [List.contains_eq_mem, Bool.or_assoc]
theorem Dom.refl (c : Pgs) : Dom c c [] := ⟨rfl, fun i _ => by simp⟩
theorem Dom.trans {c c' c'' : Pgs} {L L' : List Nat} (h : Dom c c' L) (k : Dom c' c'' L') : Dom c c'' (L ++ L') :=
  ⟨k.1.trans h.1, fun i hi => by rw [k.2 i (by rw [h.1]; exact hi), h.2 i hi]; simp [List.contains_eq_mem, Bool.or_assoc]⟩
theorem Dom.set (c : Pgs) (i : Nat) (p : List UInt8) (hi : i < c.length) : Dom c (c.set i (some p)) [i] :=
  ⟨List.length_set, fun j hj => by
    rw [pgs_set_at _ _ _ _ hi]
    by_cases e : i = j
    · subst e; simp
    · rw [if_neg e]; simp [List.contains_eq_mem]; intro q; exact absurd q.symm e⟩
theorem cntU_mono (c : Pgs) (L L2 : List Nat) : cntU c L ≤ cntU c (L ++ L2) := by
  unfold cntU
  apply List.countP_mono_left
  intro i _ h
  simp only [List.contains_eq_mem, Bool.or_eq_true, decide_eq_true_eq, List.mem_append] at h ⊢
  rcases h with h | h
  · exact Or.inl h
  · exact Or.inr (Or.inl h)
theorem cntU_one (c : Pgs) (i : Nat) (hi : i < c.length) : cntU c [i] = if (c.getD i none).isSome then cntO c else cntO c + 1 := by
  have h := (Dom.set c i [] hi).cntU []
  rw [cntU_nil, List.append_nil, cntO_set c i [] hi] at h
  exact h.symm
end Fs

section
open Go.RowKit
open Dk (zeros zeros_length)
open Hd (Head rightB pageH)
open Jn (Chg quietH liveH Cl Quiet LiveD May Same upd)
theorem read_clean {s : Dk.St} (h : Cl s) {i : Nat} (hi : i < s.last.length) : Dk.readP s (i : Int) = s.last.getD i [] := by
  unfold Dk.readP
  rw [if_pos (Dk.reach_mk h.up (Dk.has_mk hi)), Int.toNat_natCast]
  unfold Dk.nowAt
  rw [Jn.cacheAt_none h.clean]; rfl
theorem openQ_any {w : World} {d l m a z r : Nat} {s : Dk.St} {B : Int} {X : List (List UInt8)} (h : DiskAt w d l m s) (hc : Cl s) (hq : Quiet a z B s.last X) (h0 : 0 ≤ B) (hB : B < 250) (ha : a ≤ 900) (hz : z ≤ 900) (hz0 : 0 < z) (hroom : RoomIs z r) (hr : 1 ≤ r) (hreg : a + z ≤ s.last.length) :
    Calls Tryz.prog 102 #[.pointer (some ⟨d, 0, none⟩), .int .i64 (a : Int), .int .i64 (z : Int)] w (Opened w d l m a z (Jn.runs s [[⟨(a : Int), pageH (quietH (Hd.nextN [s.last.getD a []]))⟩]]) (fun cnt q => cnt = 0 ∧ q = Hd.nextN [s.last.getD a []])) := by
  have e := read_clean hc (show a < s.last.length by omega)
  obtain ⟨n0, n1, n2⟩ := Jn.next_one _ B hq.low h0
  refine open_with h ha hz hroom hr hc.up hreg _ _ (fun W j hj hd hjd => ?_)
  have := begin_quiet hj hd hjd ha hc.up (by omega) (by rw [e]; exact hq.quiet) (by rw [e]; omega)
  rw [e] at this
  exact this.mono fun e w' ⟨h1, h2, h3, h4⟩ => ⟨0, _, h1, h2, h3, ⟨rfl, rfl⟩, h4⟩
theorem fresh_cl {n : Nat} (h1 : 1 ≤ n) (h2 : n ≤ 512) : Cl (Dk.fresh n) := ⟨Dk.fresh_ok h1 h2, rfl, by unfold Dk.fresh; simp⟩
theorem fresh_len (n : Nat) : (Dk.fresh n).last.length = n := by unfold Dk.fresh; simp
theorem fresh_at {n i : Nat} (h : i < n) : (Dk.fresh n).last.getD i [] = zeros := by
  unfold Dk.fresh
  simp only
  rw [List.getD_eq_getElem?_getD, List.getElem?_replicate, if_pos h]; rfl
theorem zeros_front : Pg.getN zeros 0 4 = 0 := by decide
theorem zeros_back : Pg.getN zeros 60 4 = 0 := by decide
theorem zeros_next : Hd.nextN [zeros] = 1 := by decide
theorem zeros_quiet : Jn.QuietP zeros := by
  rintro ⟨_, h⟩
  have : (Hd.readH zeros).live = false := by decide
  rw [this] at h
  cases h
end

section
open Go.RowKit Go.Maps
open Dk (zeros zeros_length)
open Hd (Head rightB pageH)
open Jn (Chg quietH liveH Cl Quiet LiveD May Same upd)
def sto0 (s : Dk.St) (a z r : Nat) (q : Int) : Sto := ⟨s, a, z, r, q, false, noPgs s.last.length, noPgs s.last.length⟩
def SOpened (w : World) (d l m a z r : Nat) (R : Dk.St × Int) (P : Int → Int → Prop) (e : Ending) (w' : World) : Prop :=
  DiskAt w' d l m R.1 ∧ Only [d, l, m] w w' ∧
  ((R.2 = 0 ∧ ∃ (b : Blk) (cnt q : Int), b.d = d ∧ b.l = l ∧ b.m = m ∧ w.heap.size ≤ b.s ∧ w.heap.size ≤ b.j ∧ w.heap.size ≤ b.t ∧ w.heap.size ≤ b.g ∧ e = .returned (.tuple #[.pointer (some ⟨b.s, 0, none⟩), .int .i64 0]) ∧ P cnt q ∧ StoreAt w' b (sto0 R.1 a z r q)) ∨
   (R.2 ≠ 0 ∧ e = .returned (.tuple #[.pointer none, .int .i64 R.2])))
theorem sto0_ok {s : Dk.St} {a z r : Nat} {q : Int} (ha : a ≤ 900) (hz : z ≤ 900) (hroom : RoomIs z r) (hr1 : 1 ≤ r) (hr2 : r ≤ 512) (hr3 : 1 + Jn.nl r + r ≤ z) (hreg : a + z ≤ s.last.length) : (sto0 s a z r q).Ok :=
  ⟨List.length_replicate, List.length_replicate, pagesOk_no _ _ _ _, pagesOk_no _ _ _ _, by show cntO (noPgs _) ≤ _; rw [cntO_no]; exact Nat.zero_le _, by show cntO (noPgs _) ≤ _; rw [cntO_no]; exact Nat.zero_le _, ha, hz, hreg, hroom, hr1, hr2, hr3⟩
theorem store_new {w w2 : World} {d l m j a z r : Nat} {q : Int} {s : Dk.St} {T : TypeId} (hd : DiskAt w2 d l m s) (hj : JAt w2 j d a z q false) (ho : Only [d, l, m] w w2) (hlt : d < w.heap.size ∧ l < w.heap.size ∧ m < w.heap.size) (hjj : w.heap.size ≤ j) (hok : (sto0 s a z r q).Ok) :
    StoreAt (((w2.alloc (.map #[] 0)).alloc (.map #[] 0)).alloc (.cells (stVals ⟨w2.heap.size + 2, j, d, l, m, w2.heap.size, w2.heap.size + 1⟩ a z).toArray T)) ⟨w2.heap.size + 2, j, d, l, m, w2.heap.size, w2.heap.size + 1⟩ (sto0 s a z r q) ∧
    Only [d, l, m] w (((w2.alloc (.map #[] 0)).alloc (.map #[] 0)).alloc (.cells (stVals ⟨w2.heap.size + 2, j, d, l, m, w2.heap.size, w2.heap.size + 1⟩ a z).toArray T)) := by
  have hjlt := hj.lt
  have hsz := ho.size
  have h1 : (w2.alloc (.map #[] 0)).heap.size = w2.heap.size + 1 := by simp
  have h2 : ((w2.alloc (.map #[] 0)).alloc (.map #[] 0)).heap.size = w2.heap.size + 2 := by simp
  have m1 := mapAt_made w2 s.last.length
  have m2 := mapAt_made (w2.alloc (.map #[] 0)) s.last.length
  rw [h1] at m2
  have r3 := rowAt_new ((w2.alloc (.map #[] 0)).alloc (.map #[] 0)) (stVals ⟨w2.heap.size + 2, j, d, l, m, w2.heap.size, w2.heap.size + 1⟩ a z) T
  rw [h2] at r3
  have b1 : ∀ k, k < w2.heap.size + 1 → ((w2.alloc (.map #[] 0)).alloc (.map #[] 0)).heap[k]? = (w2.alloc (.map #[] 0)).heap[k]? := fun k hk => Below.heap_alloc _ _ k (by omega)
  have b2 : ∀ k, k < w2.heap.size + 2 → (((w2.alloc (.map #[] 0)).alloc (.map #[] 0)).alloc (.cells (stVals ⟨w2.heap.size + 2, j, d, l, m, w2.heap.size, w2.heap.size + 1⟩ a z).toArray T)).heap[k]? = ((w2.alloc (.map #[] 0)).alloc (.map #[] 0)).heap[k]? := fun k hk => Below.heap_alloc _ _ k (by omega)
  refine ⟨⟨r3, ⟨q, ?_, fun _ => rfl⟩, (((hd.alloc _).alloc _).alloc _), ?_, ?_, ?_, hok⟩, ((ho.alloc _).alloc _).alloc _⟩
  · exact ((hj.block (Below.heap_alloc _ _ j hjlt)).block (b1 j (by omega))).block (b2 j (by omega))
  · exact (m1.block (b1 _ (by omega))).block (b2 _ (by show w2.heap.size < _; omega))
  · exact m2.block (b2 _ (by show w2.heap.size + 1 < _; omega))
  · have e1 := hd.dl
    have e2 := hd.dm
    have e3 := hd.lm
    unfold Blk.all
    simp only [List.nodup_cons, List.mem_cons, List.not_mem_nil, or_false, not_or, List.nodup_nil, not_false_eq_true, and_true]
    omega
theorem sopen_any {w : World} {d l m a z r : Nat} {R : Dk.St × Int} {P : Int → Int → Prop} (hd : d < w.heap.size ∧ l < w.heap.size ∧ m < w.heap.size) (hlen : a + z ≤ R.1.last.length) (ha : a ≤ 900) (hz : z ≤ 900) (hroom : RoomIs z r) (hr1 : 1 ≤ r) (hr2 : r ≤ 512) (hr3 : 1 + Jn.nl r + r ≤ z)
    (hO : Calls Tryz.prog 102 #[.pointer (some ⟨d, 0, none⟩), .int .i64 (a : Int), .int .i64 (z : Int)] w (Opened w d l m a z R P)) :
    Calls Tryz.prog 58 #[.pointer (some ⟨d, 0, none⟩), .int .i64 (a : Int), .int .i64 (z : Int)] w (SOpened w d l m a z r R P) := by
  have HO := Lib.hid hO
  have HD := Lib.hid hd
  have HOK := Lib.hid (fun q => sto0_ok (s := R.1) (q := q) ha hz hroom hr1 hr2 hr3 hlen)
  clear hO hd hlen hroom hr1 hr2 hr3
  have hmm := @run_makeMap Tryz.prog
  go_enter Tryz.func58, Tryz.ntmps58
  go_wp2_with fail
  refine HO.out.mono ?_
  rintro e w2 ⟨hd2, ho2, hc⟩
  have HD2 := Lib.hid hd2
  have HO2 := Lib.hid ho2
  clear hd2 ho2 HO
  rcases hc with ⟨hz0, j, cnt, q, rfl, hj, hP, hjj⟩ | ⟨hz0, rfl⟩
  · have HZ := Lib.hid hz0
    have HN := Lib.hid (store_new (T := 142) HD2.out hj HO2.out HD.out hjj (HOK.out q))
    have HP := Lib.hid hP
    have HJJ := Lib.hid hjj
    have HSZ := Lib.hid HO2.out.size
    clear hj hP hjj hz0
    unfold stVals at HN
    go_wp2_with fail
    go_ret2
    have h3 : (((w2.alloc (.map #[] 0)).alloc (.map #[] 0)).heap.size) = w2.heap.size + 2 := by simp
    have hs := HSZ.out
    exact ⟨HN.out.1.disk, HN.out.2, Or.inl ⟨HZ.out, ⟨w2.heap.size + 2, j, d, l, m, w2.heap.size, w2.heap.size + 1⟩, cnt, q, rfl, rfl, rfl, (by show w.heap.size ≤ w2.heap.size + 2; omega), HJJ.out, (by show w.heap.size ≤ w2.heap.size; omega), (by show w.heap.size ≤ w2.heap.size + 1; omega), rfl, HP.out, HN.out.1⟩⟩
  · have hne2 : (R.2 == 0) = false := by simpa using hz0
    have hne3 : (R.2 != 0) = true := by simpa using hz0
    have HZ := Lib.hid hz0
    clear hz0
    generalize hE : R.2 = E at hne2 hne3 ⊢
    have HE := Lib.hid hE
    clear hE
    go_wp2_with fail
    go_ret2
    exact ⟨HD2.out, HO2.out, Or.inr ⟨HZ.out, by rw [HE.out]; rfl⟩⟩
end

section
open Go.RowKit Go.Maps
open Dk (zeros zeros_length)
open Hd (Head rightB pageH)
open Jn (Chg quietH liveH Cl Quiet LiveD May Same upd)
structure Sound (s : Sto) : Prop where
  ok : s.Ok
  up : s.over = false
  cl : Cl s.dk
  q0 : 0 ≤ s.q
  head : s.dk.last.getD s.a [] = pageH (quietH s.q)
theorem Sound.may {s : Sto} (h : Sound s) (hc : cntO s.group ≠ 0) : May s.a s.z s.dk.last.length (chgs s.group) :=
  takes_may (r := s.r) (chgs_takes h.ok.gpg) (chgs_pages h.ok.gpg) (by rw [chgs_length]; omega) (by rw [chgs_length]; exact h.ok.gcnt) h.ok.r32 h.ok.rz h.ok.reg h.cl.ok.small
theorem Sound.step {s : Sto} (h : Sound s) {c : Pgs} (hok : Sto.Ok { s with step := c }) : Sound { s with step := c } := ⟨hok, h.up, h.cl, h.q0, h.head⟩
theorem Sound.join {s : Sto} (h : Sound s) (hc : stog s ≤ s.r) : Sound (sjoin s) := ⟨sjoin_ok h.ok hc, h.up, h.cl, h.q0, h.head⟩
end

section
open Go.RowKit Go.Maps
open Dk (zeros zeros_length)
open Jn (Chg)
theorem below_drewN {n : Nat} (w : World) (k : Nat) : Below n w (w.drewN k) := ⟨rfl, rfl, rfl, Nat.le_refl _, fun _ _ => rfl⟩
theorem sover_any {w : World} {b : Blk} {s : Sto} (h : StoreAt w b s) : Calls Tryz.prog 71 #[.pointer (some ⟨b.s, 0, none⟩)] w fun e w' => e = .returned (.bool s.over) ∧ w = w' := by
  obtain ⟨q, hj, _⟩ := h.ja
  have HO := Lib.hid (over_any hj)
  have c0 := h.c0
  clear h hj
  go_enter Tryz.func71, Tryz.ntmps71
  go_wp2_with (go_at_call 117; refine HO.out.mono ?_; rintro e w' ⟨rfl, rfl⟩)
  go_ret
  exact ⟨rfl, rfl⟩
theorem sreach_any {w : World} {b : Blk} {s : Sto} (h : StoreAt w b s) (i : Int) : Calls Tryz.prog 118 #[.pointer (some ⟨b.s, 0, none⟩), .int .i64 i] w fun e w' => e = .returned (.int .i64 (sreachE s i)) ∧ Below w.heap.size w w' := by
  have HO := Lib.hid (sover_any h)
  have HP : Hid (∀ n, Calls Tryz.prog 53 #[.pointer (some ⟨b.d, 0, none⟩)] (w.drewN n) fun e w' => e = .returned (.int .i64 (s.dk.last.length : Int)) ∧ w' = w.drewN n) := Lib.hid (fun n => (pages_any (h.disk.drewN n)).mono fun e w' ⟨h1, h2⟩ => ⟨h1, h2.symm⟩)
  have c1 := h.c1
  have c2 := h.c2
  have c3 := h.c3
  have ha : (s.a : Int) ≤ 900 := by have := h.ok.a9; omega
  have hz : (s.z : Int) ≤ 900 := by have := h.ok.z9; omega
  clear h
  cases ho : s.over with
  | true =>
    rw [ho] at HO
    have HE : Hid (sreachE s i = 5) := Lib.hid (by unfold sreachE; rw [if_pos ho])
    rw [HE.out]
    clear ho HE
    go_enter Tryz.func118, Tryz.ntmps118
    go_wp2_with (go_at_call 71; refine HO.out.mono ?_; rintro e w' ⟨rfl, rfl⟩)
    go_ret
    exact ⟨rfl, Below.refl _ _⟩
  | false =>
    rw [ho] at HO
    have HE : Hid (sreachE s i = if otherB s.dk.last.length s.a s.z i = true then 0 else 22) := Lib.hid (by unfold sreachE; rw [if_neg (by rw [ho]; simp)])
    rw [HE.out]
    clear ho HE
    generalize s.dk.last.length = n at HP ⊢
    generalize s.a = a at *
    generalize s.z = z at *
    by_cases k1 : i < 0
    · have HE : Hid (otherB n a z i = false) := Lib.hid (by unfold otherB; rw [decide_eq_false_iff_not]; omega)
      rw [HE.out]
      go_enter Tryz.func118, Tryz.ntmps118
      go_wp2_with (go_at_call 71; refine HO.out.mono ?_; rintro e w' ⟨rfl, rfl⟩)
      go_quiet ((go_at_call 53; refine Calls.quiet_of_same (HP.out _)))
      go_wp2
      go_ret
      exact ⟨rfl, below_drewN _ _⟩
    · have k1' : decide (i < 0) = false := decide_eq_false k1
      by_cases k2 : (n : Int) ≤ i
      · have HE : Hid (otherB n a z i = false) := Lib.hid (by unfold otherB; rw [decide_eq_false_iff_not]; omega)
        rw [HE.out]
        go_enter Tryz.func118, Tryz.ntmps118
        go_wp2_with (go_at_call 71; refine HO.out.mono ?_; rintro e w' ⟨rfl, rfl⟩)
        go_quiet ((go_at_call 53; refine Calls.quiet_of_same (HP.out _)))
        go_wp2
        go_ret
        exact ⟨rfl, below_drewN _ _⟩
      · have k2' : decide ((n : Int) ≤ i) = false := decide_eq_false k2
        by_cases k3 : (a : Int) ≤ i
        · by_cases k4 : i < (a : Int) + (z : Int)
          · have HE : Hid (otherB n a z i = false) := Lib.hid (by unfold otherB; rw [decide_eq_false_iff_not]; omega)
            rw [HE.out]
            go_enter Tryz.func118, Tryz.ntmps118
            go_wp2_with (go_at_call 71; refine HO.out.mono ?_; rintro e w' ⟨rfl, rfl⟩)
            go_quiet ((go_at_call 53; refine Calls.quiet_of_same (HP.out _)))
            go_wp2
            go_ret
            exact ⟨rfl, below_drewN _ _⟩
          · have k4' : decide (i < (a : Int) + (z : Int)) = false := decide_eq_false k4
            have HE : Hid (otherB n a z i = true) := Lib.hid (by unfold otherB; rw [decide_eq_true_iff]; omega)
            rw [HE.out]
            go_enter Tryz.func118, Tryz.ntmps118
            go_wp2_with (go_at_call 71; refine HO.out.mono ?_; rintro e w' ⟨rfl, rfl⟩)
            go_quiet ((go_at_call 53; refine Calls.quiet_of_same (HP.out _)))
            go_wp2
            go_ret
            exact ⟨rfl, below_drewN _ _⟩
        · have k3' : decide ((a : Int) ≤ i) = false := decide_eq_false k3
          have HE : Hid (otherB n a z i = true) := Lib.hid (by unfold otherB; rw [decide_eq_true_iff]; omega)
          rw [HE.out]
          go_enter Tryz.func118, Tryz.ntmps118
          go_wp2_with (go_at_call 71; refine HO.out.mono ?_; rintro e w' ⟨rfl, rfl⟩)
          go_quiet ((go_at_call 53; refine Calls.quiet_of_same (HP.out _)))
          go_wp2
          go_ret
          exact ⟨rfl, below_drewN _ _⟩
theorem sdrop_any {w : World} {b : Blk} {s : Sto} (h : StoreAt w b s) : Calls Tryz.prog 72 #[.pointer (some ⟨b.s, 0, none⟩)] w fun e w' => e = .returned (.tuple #[]) ∧ StoreAt w' b (sdrop s) ∧ Only [b.t] w w' := by
  have HH := Lib.hid h
  have c4 := h.c4
  obtain ⟨w2, hcl0, hmp, htn⟩ := h.step.clear s.dk.last.length 0
  have hcl : ∀ ty, (Builtin.clear_ #[91] ty #[.map (some b.t)]).run Tryz.prog w = .ok (.tuple #[]) w2 := fun ty => hcl0
  have HM := Lib.hid hmp
  have HT := Lib.hid htn
  clear h hcl0 hmp htn
  go_enter Tryz.func72, Tryz.ntmps72
  go_wp2
  go_end0
  have ho : Only [b.t] w w2 := Only.grown HT.out.grown (by simp)
  exact ⟨rfl, HH.out.setStep ho HM.out (sdrop_ok HH.out.ok), ho⟩
end

section
open Go.Shelf
def keysA_ren : Go.Shelf.Ren := ⟨fun | 7 => 177 | 10 => 196 | n => n, fun | 23 => 91 | 26 => 3 | 3 => 97 | 28 => 217 | 0 => 0 | 27 => 216 | 33 => 145 | 4 => 4 | n => n, fun | n => n⟩
theorem keysA : Go.Proofs.SlLaysZI.n7 Tryz.prog keysA_ren := {
  mixed := by kernel_rfl
  f7 := ⟨Tryz.f177.name, by decide, Tryz.func177.trans (congrArg some (by kernel_rfl))⟩
  f10 := ⟨Tryz.f196.name, by decide, Tryz.func196.trans (congrArg some (by kernel_rfl))⟩
  t0 := Tryz.underlying0
  a0 := Tryz.isAgg0
  z0 := Tryz.sizeOf0
  v0 := Tryz.zeroValue0
  t4 := Tryz.underlying4
  a4 := Tryz.isAgg4
  z4 := Tryz.sizeOf4
  v4 := Tryz.zeroValue4
  t23 := Tryz.underlying91
  a23 := Tryz.isAgg91
  z23 := Tryz.sizeOf91
  v23 := Tryz.zeroValue91
  t26 := Tryz.underlying3
  a26 := Tryz.isAgg3
  z26 := Tryz.sizeOf3
  v26 := Tryz.zeroValue3
  t27 := Tryz.underlying216
  a27 := Tryz.isAgg216
  z27 := Tryz.sizeOf216
  v27 := Tryz.zeroValue216
  t28 := Tryz.underlying217
  a28 := Tryz.isAgg217
  z28 := Tryz.sizeOf217
  v28 := Tryz.zeroValue217
  t33 := Tryz.underlying145
  a33 := Tryz.isAgg145
  z33 := Tryz.sizeOf145
  v33 := Tryz.zeroValue145 }
def sortedA_ren : Go.Shelf.Ren := ⟨fun | 6 => 176 | 8 => 194 | 9 => 195 | 11 => 203 | 13 => 205 | 12 => 204 | 23 => 215 | 24 => 216 | 14 => 206 | 15 => 207 | 16 => 208 | 17 => 209 | 18 => 210 | 19 => 211 | 20 => 212 | 21 => 213 | 22 => 214 | 25 => 217 | 26 => 218 | 27 => 219 | 28 => 220 | 29 => 221 | 30 => 222 | 31 => 223 | n => n, fun | 26 => 3 | 28 => 217 | 24 => 152 | 0 => 0 | 3 => 3 | 37 => 189 | 48 => 205 | 50 => 259 | 4 => 4 | 40 => 252 | 39 => 251 | 45 => 32 | 5 => 5 | 9 => 9 | 51 => 260 | 55 => 151 | 57 => 265 | 58 => 126 | 33 => 145 | n => n, fun | n => n⟩
theorem sortedA : Go.Proofs.SlLaysZI.n6 Tryz.prog sortedA_ren := {
  mixed := by kernel_rfl
  f6 := ⟨Tryz.f176.name, by decide, Tryz.func176.trans (congrArg some (by kernel_rfl))⟩
  f8 := ⟨Tryz.f194.name, by decide, Tryz.func194.trans (congrArg some (by kernel_rfl))⟩
  f11 := ⟨Tryz.f203.name, by decide, Tryz.func203.trans (congrArg some (by kernel_rfl))⟩
  t0 := Tryz.underlying0
  a0 := Tryz.isAgg0
  z0 := Tryz.sizeOf0
  v0 := Tryz.zeroValue0
  t24 := Tryz.underlying152
  a24 := Tryz.isAgg152
  z24 := Tryz.sizeOf152
  v24 := Tryz.zeroValue152
  t26 := Tryz.underlying3
  a26 := Tryz.isAgg3
  z26 := Tryz.sizeOf3
  v26 := Tryz.zeroValue3
  t28 := Tryz.underlying217
  a28 := Tryz.isAgg217
  z28 := Tryz.sizeOf217
  v28 := Tryz.zeroValue217
  i26 := by kernel_rfl }
def sortA_ren : Go.Shelf.Ren := ⟨fun | 5 => 195 | 8 => 205 | 7 => 204 | 19 => 215 | 20 => 216 | 10 => 206 | 11 => 207 | 12 => 208 | 13 => 209 | 14 => 210 | 15 => 211 | 16 => 212 | 17 => 213 | 18 => 214 | 30 => 217 | 31 => 218 | 32 => 219 | 33 => 220 | 34 => 221 | 35 => 222 | 40 => 223 | n => n, fun | 23 => 152 | 25 => 3 | 3 => 3 | 32 => 189 | 22 => 152 | 0 => 0 | 44 => 205 | 46 => 259 | 4 => 4 | 36 => 252 | 35 => 251 | 41 => 32 | 5 => 5 | 9 => 9 | 53 => 260 | 57 => 151 | 63 => 265 | 64 => 126 | n => n, fun | n => n⟩
theorem sortA : Go.Proofs.SlLaysM.n5 Tryz.prog sortA_ren := {
  mixed := by kernel_rfl
  f5 := ⟨Tryz.f195.name, by decide, Tryz.func195.trans (congrArg some (by kernel_rfl))⟩
  f7 := ⟨Tryz.f204.name, by decide, Tryz.func204.trans (congrArg some (by kernel_rfl))⟩
  f8 := Tryz.func205.trans (congrArg some (by kernel_rfl))
  f10 := ⟨Tryz.f206.name, by decide, Tryz.func206.trans (congrArg some (by kernel_rfl))⟩
  f11 := ⟨Tryz.f207.name, by decide, Tryz.func207.trans (congrArg some (by kernel_rfl))⟩
  f12 := ⟨Tryz.f208.name, by decide, Tryz.func208.trans (congrArg some (by kernel_rfl))⟩
  f13 := ⟨Tryz.f209.name, by decide, Tryz.func209.trans (congrArg some (by kernel_rfl))⟩
  f14 := ⟨Tryz.f210.name, by decide, Tryz.func210.trans (congrArg some (by kernel_rfl))⟩
  f15 := ⟨Tryz.f211.name, by decide, Tryz.func211.trans (congrArg some (by kernel_rfl))⟩
  f16 := ⟨Tryz.f212.name, by decide, Tryz.func212.trans (congrArg some (by kernel_rfl))⟩
  f17 := ⟨Tryz.f213.name, by decide, Tryz.func213.trans (congrArg some (by kernel_rfl))⟩
  f18 := ⟨Tryz.f214.name, by decide, Tryz.func214.trans (congrArg some (by kernel_rfl))⟩
  f19 := Tryz.func215.trans (congrArg some (by kernel_rfl))
  f20 := Tryz.func216.trans (congrArg some (by kernel_rfl))
  f30 := ⟨Tryz.f217.name, by decide, Tryz.func217.trans (congrArg some (by kernel_rfl))⟩
  f31 := Tryz.func218.trans (congrArg some (by kernel_rfl))
  f32 := Tryz.func219.trans (congrArg some (by kernel_rfl))
  f33 := ⟨Tryz.f220.name, by decide, Tryz.func220.trans (congrArg some (by kernel_rfl))⟩
  f34 := ⟨Tryz.f221.name, by decide, Tryz.func221.trans (congrArg some (by kernel_rfl))⟩
  f35 := ⟨Tryz.f222.name, by decide, Tryz.func222.trans (congrArg some (by kernel_rfl))⟩
  f40 := ⟨Tryz.f223.name, by decide, Tryz.func223.trans (congrArg some (by kernel_rfl))⟩
  t0 := Tryz.underlying0
  a0 := Tryz.isAgg0
  z0 := Tryz.sizeOf0
  v0 := Tryz.zeroValue0
  t3 := Tryz.underlying3
  a3 := Tryz.isAgg3
  z3 := Tryz.sizeOf3
  v3 := Tryz.zeroValue3
  t4 := Tryz.underlying4
  a4 := Tryz.isAgg4
  z4 := Tryz.sizeOf4
  v4 := Tryz.zeroValue4
  t5 := Tryz.underlying5
  a5 := Tryz.isAgg5
  z5 := Tryz.sizeOf5
  v5 := Tryz.zeroValue5
  t9 := Tryz.underlying9
  a9 := Tryz.isAgg9
  z9 := Tryz.sizeOf9
  v9 := Tryz.zeroValue9
  t22 := Tryz.underlying152
  a22 := Tryz.isAgg152
  z22 := Tryz.sizeOf152
  v22 := Tryz.zeroValue152
  t23 := Tryz.underlying152
  a23 := Tryz.isAgg152
  z23 := Tryz.sizeOf152
  v23 := Tryz.zeroValue152
  t25 := Tryz.underlying3
  a25 := Tryz.isAgg3
  z25 := Tryz.sizeOf3
  v25 := Tryz.zeroValue3
  t32 := Tryz.underlying189
  a32 := Tryz.isAgg189
  z32 := Tryz.sizeOf189
  v32 := Tryz.zeroValue189
  t35 := Tryz.underlying251
  a35 := Tryz.isAgg251
  z35 := Tryz.sizeOf251
  v35 := Tryz.zeroValue251
  t36 := Tryz.underlying252
  a36 := Tryz.isAgg252
  z36 := Tryz.sizeOf252
  v36 := Tryz.zeroValue252
  t41 := Tryz.underlying32
  a41 := Tryz.isAgg32
  z41 := Tryz.sizeOf32
  v41 := Tryz.zeroValue32
  t44 := Tryz.underlying205
  a44 := Tryz.isAgg205
  z44 := Tryz.sizeOf205
  v44 := Tryz.zeroValue205
  t46 := Tryz.underlying259
  a46 := Tryz.isAgg259
  z46 := Tryz.sizeOf259
  v46 := Tryz.zeroValue259
  t53 := Tryz.underlying260
  a53 := Tryz.isAgg260
  z53 := Tryz.sizeOf260
  v53 := Tryz.zeroValue260
  t57 := Tryz.underlying151
  a57 := Tryz.isAgg151
  z57 := Tryz.sizeOf151
  v57 := Tryz.zeroValue151
  t63 := Tryz.underlying265
  a63 := Tryz.isAgg265
  z63 := Tryz.sizeOf265
  v63 := Tryz.zeroValue265
  t64 := Tryz.underlying126
  a64 := Tryz.isAgg126
  z64 := Tryz.sizeOf126
  v64 := Tryz.zeroValue126 }
end
end Go.Proofs.YtmpfcgjjejlhdaaGreat
