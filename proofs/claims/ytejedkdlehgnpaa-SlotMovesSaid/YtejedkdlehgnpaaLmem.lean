/-
  Structs in memory: a row of cells in a block of its own, loaded and stored whole; the same in a region that draws its order; a region that reads, and calls what leaves a world of a class, gone through in one order.
-/
import Derived.Test.YtejedkdlehgnpaaPset
import Derived.Test.YtejedkdlehgnpaaHlin
import Derived.BigQuiet
namespace Go.Proofs.Ytejedkdlehgnpaa
open Go.RowKit

/-- a row of cells in a block of its own, that may be written -/
structure RowAt (w : World) (b : Nat) (vs : List Value) : Prop where
  range : w.rangeAt b 0 vs
  free : w.there b 0 vs.length
theorem RowAt.cell {w : World} {b : Nat} {vs : List Value} (h : RowAt w b vs) (j : Nat) (v : Value) (hv : vs[j]? = some v) : w.cell? ⟨b, j, none⟩ = some v := by
  have := h.range j v hv
  rwa [Nat.zero_add] at this
theorem RowAt.frozen {w : World} {b : Nat} {vs : List Value} (h : RowAt w b vs) (j : Nat) (hj : j < vs.length) : w.frozen? ⟨b, j, none⟩ = false := by
  have := (h.free j hj).2
  rwa [Nat.zero_add] at this
theorem RowAt.lt {w : World} {b : Nat} {v : Value} {vs : List Value} (h : RowAt w b (v :: vs)) : b < w.heap.size := World.block_lt_of_cell? w _ (h.cell 0 v rfl)
theorem rowAt_new (w : World) (vs : List Value) (t : TypeId) : RowAt (w.alloc (.cells vs.toArray t)) w.heap.size vs where
  range := fun j v hv => by
    rw [Nat.zero_add, World.cell?_alloc_mark]
    simpa using hv
  free := there_new w _ t _ (by rw [List.size_toArray]; exact Nat.le_refl _)
theorem RowAt.alloc {w : World} {b : Nat} {vs : List Value} (h : RowAt w b vs) (o : Obj) : RowAt (w.alloc o) b vs := ⟨World.rangeAt_alloc h.range o, World.there_alloc h.free o⟩
theorem RowAt.drew {w : World} {b : Nat} {vs : List Value} (h : RowAt w b vs) : RowAt w.drew b vs := ⟨(World.rangeAt_drew ..).2 h.range, (World.there_drew ..).2 h.free⟩
theorem RowAt.below {n : Nat} {w w' : World} {b : Nat} {vs : List Value} (h : RowAt w b vs) (hb : Below n w w') (hn : b < n) : RowAt w' b vs where
  range := fun j v hv => (hb.cell (p := ⟨b, 0 + j, none⟩) hn).trans (h.range j v hv)
  free := fun j hj => by
    rw [hb.cell (p := ⟨b, 0 + j, none⟩) hn, hb.frozen (p := ⟨b, 0 + j, none⟩) hn]
    exact h.free j hj
theorem RowAt.step {w w' : World} {b : Nat} {v : Value} {vs : List Value} (h : RowAt w b (v :: vs)) (hb : Below w.heap.size w w') : RowAt w' b (v :: vs) := h.below hb h.lt
theorem RowAt.put {w : World} {b : Nat} {vs : List Value} (h : RowAt w b vs) (us : List Value) (hl : us.length = vs.length) : RowAt (w.setCells b 0 us) b us where
  range := World.rangeAt_setCells_same _ _ _ _ (by rw [hl]; exact h.free)
  free := World.there_setCells (by rw [hl]; exact h.free) _ _ _
theorem RowAt.put_other {w : World} {b : Nat} {vs : List Value} (h : RowAt w b vs) (b' o : Nat) (us : List Value) (hb : b ≠ b') : RowAt (w.setCells b' o us) b vs where
  range := World.rangeAt_setCells_apart h.range _ _ _ (Or.inl hb)
  free := World.there_setCells h.free _ _ _
theorem PageAt.step {w w' : World} {b : Nat} {p : List UInt8} (h : PageAt w b p) (hb : Below w.heap.size w w') : PageAt w' b p := h.below hb h.lt

/-- a struct's type: how many cells it has -/
structure RowT (t : TypeId) (n : Nat) : Prop where
  row : ∃ d, Try.prog.underlying t = some d ∧ d.isRow = true
  info : (Try.prog.info? t).map (·.size) = some n
theorem RowAt.loads {t : TypeId} {n : Nat} (ht : RowT t n) {w : World} {b : Nat} {vs : List Value} (k : RowAt w b vs) (hl : vs.length = n) : (loadVar t ⟨b, 0, none⟩).run Try.prog w = .ok (.agg vs.toArray) w := by
  obtain ⟨d, hd, hr⟩ := ht.row
  exact run_loadVar_mid (P := Try.prog) w b 0 t vs d k.range hd hr (by rw [ht.info, hl])
theorem wpList_load_row {t : TypeId} {n : Nat} (ht : RowT t n) {ops : Array Oper} {rest : List Oper} {op : Oper} {a : Act} {Q : Exit → Act → World → Prop} {w : World} {b : Nat} {vs : List Value} (k : RowAt w b vs) (hl : vs.length = n) (hgd : op.guard = none) (x : Operand) (ho : op.op = .load t x)
    (hx : a.eval x = .pointer (some ⟨b, 0, none⟩)) (hn : wpList Try.prog ops Q rest (a.put op.dst (.agg vs.toArray)) w) : wpList Try.prog ops Q (op :: rest) a w := by
  obtain ⟨d, hd, hr⟩ := ht.row
  exact wpList_load_mid hgd t x ho b 0 hx vs d k.range hd hr (by rw [ht.info, hl]) hn
theorem wpList_loadg_row {t : TypeId} {n : Nat} (ht : RowT t n) {ops : Array Oper} {rest : List Oper} {op : Oper} {a : Act} {Q : Exit → Act → World → Prop} {w : World} {b : Nat} {vs : List Value} (k : RowAt w b vs) (hl : vs.length = n) (x : Operand) (ho : op.op = .load t x)
    (hx : a.eval x = .pointer (some ⟨b, 0, none⟩)) (hw : Region.wanted op (yielded ops a.tmps) = true) (hn : wpList Try.prog ops Q rest (a.put op.dst (.agg vs.toArray)) w) : wpList Try.prog ops Q (op :: rest) a w := by
  obtain ⟨d, hd, hr⟩ := ht.row
  exact BigFrame.wpList_want hw fun _ hK => wp_load_mid t x ho b 0 hx vs d k.range hd hr (by rw [ht.info, hl]) (hK _ _ hn)
theorem wpList_store_row {t : TypeId} {n : Nat} (ht : RowT t n) {ops : Array Oper} {rest : List Oper} {op : Oper} {a : Act} {Q : Exit → Act → World → Prop} {w : World} {b : Nat} {us vs : List Value} (k : RowAt w b us) (hu : us.length = n) (hl : vs.length = n) (ho1 : ∀ v ∈ vs, v.oneCell' = true) (hgd : op.guard = none) (x y : Operand) (ho : op.op = .store t x y)
    (hx : a.eval x = .pointer (some ⟨b, 0, none⟩)) (hy : a.eval y = .agg vs.toArray) (hn : wpList Try.prog ops Q rest (a.put op.dst undef) (w.setCells b 0 vs)) : wpList Try.prog ops Q (op :: rest) a w :=
  wpList_store_mid hgd t x y ho b 0 vs.toArray hx hy (by rw [List.size_toArray, hl, ← hu]; exact k.free) (by rw [ht.info, List.size_toArray, hl]) (all_oneCell_toArray ho1) (by simpa using hn)
theorem wpList_store_newrow {t : TypeId} {n : Nat} (ht : RowT t n) {ops : Array Oper} {rest : List Oper} {op : Oper} {a : Act} {Q : Exit → Act → World → Prop} {w : World} {Z : Array Value} {u : TypeId} {vs : List Value} (hl : vs.length = n) (ho1 : ∀ v ∈ vs, v.oneCell' = true) (hgd : op.guard = none) (x y : Operand) (ho : op.op = .store t x y)
    (hx : a.eval x = .pointer (some ⟨w.heap.size, 0, none⟩)) (hy : a.eval y = .agg vs.toArray) (hZ : Z.size = n)
    (hn : ∀ W2, RowAt W2 w.heap.size vs → Below w.heap.size w W2 → W2.heap.size = w.heap.size + 1 → wpList Try.prog ops Q rest (a.put op.dst undef) W2) :
    wpList Try.prog ops Q (op :: rest) a (w.alloc (.cells Z u)) := by
  have hth : (w.alloc (.cells Z u)).there w.heap.size 0 vs.length := there_new w Z u _ (by omega)
  refine wpList_store_mid hgd t x y ho w.heap.size 0 vs.toArray hx hy (by rw [List.size_toArray]; exact hth) (by rw [ht.info, List.size_toArray, hl]) (all_oneCell_toArray ho1) (hn _ ?_ ?_ ?_)
  · exact ⟨World.rangeAt_setCells_same _ _ _ _ hth, World.there_setCells hth _ _ _⟩
  · exact below_setCells _ (Nat.le_refl _) _ _ _ ((Below.refl _ _).alloc (Nat.le_refl _) _)
  · rw [heap_setCells]; simp
/-- results: a struct in a block, and a plain value -/
theorem results_row {t : TypeId} {n : Nat} (ht : RowT t n) (fn : Func) (s : Nat) (hf : fn.results = #[.cell s t]) {w : World} {b : Nat} {vs : List Value} (tmps : Array Value) (k : RowAt w b vs) (hl : vs.length = n) (hs : tmps.getD s undef = .pointer (some ⟨b, 0, none⟩)) :
    (results fn tmps).run Try.prog w = .ok (.agg vs.toArray) w := by
  have hl := k.loads ht hl
  unfold results
  rw [hf]
  simp only [Array.mapM_eq_mapM_toList, List.mapM_cons, List.mapM_nil, hs, asAddr, Sem.run_bind, Sem.run_pure, Result.andThen_ok, hl, Sem.run_map]
  rfl
theorem results_row2 {t : TypeId} {n : Nat} (ht : RowT t n) (fn : Func) (s r : Nat) (hf : fn.results = #[.cell s t, .tmp r]) {w : World} {b : Nat} {vs : List Value} {v : Value} (tmps : Array Value) (k : RowAt w b vs) (hl : vs.length = n) (hs : tmps.getD s undef = .pointer (some ⟨b, 0, none⟩)) (hr : tmps.getD r undef = v) :
    (results fn tmps).run Try.prog w = .ok (.tuple #[.agg vs.toArray, v]) w := by
  have hl := k.loads ht hl
  unfold results
  rw [hf]
  simp only [Array.mapM_eq_mapM_toList, List.mapM_cons, List.mapM_nil, hs, hr, asAddr, Sem.run_bind, Sem.run_pure, Result.andThen_ok, hl, Sem.run_map]
  rfl
theorem results_page2 (fn : Func) (s r : Nat) (hf : fn.results = #[.cell s 32, .tmp r]) {w : World} {b : Nat} {q : List UInt8} {v : Value} (tmps : Array Value) (h : PageAt w b q) (ht : tmps.getD s undef = .pointer (some ⟨b, 0, none⟩)) (hr : tmps.getD r undef = v) :
    (results fn tmps).run Try.prog w = .ok (.tuple #[pageV q, v]) w := by
  have hl := h.loads
  unfold results
  rw [hf]
  simp only [Array.mapM_eq_mapM_toList, List.mapM_cons, List.mapM_nil, ht, hr, asAddr, Sem.run_bind, Sem.run_pure, Result.andThen_ok, hl, Sem.run_map]
  rfl

/-! ### in a region that draws its order -/
section
variable {ops : Array Oper} {σ : Type} {S : σ → World → Prop}
theorem ord_page {o : Oper} {a : Act} {b : Nat} {p : List UInt8} (hw : Region.wanted o (yielded ops a.tmps) = true) (x : Operand) (ho : o.op = .load 32 x) (hx : a.eval x = .pointer (some ⟨b, 0, none⟩)) (hS : ∀ s w, S s w → PageAt w b p) :
    OrdAt Try.prog ops S o (pageV p) a :=
  ord_value hw fun s w hs => by
    unfold execOp
    have := (hS s w hs).loads
    simp only [ho, hx, Instr.loadAt, Instr.sureAddr, Sem.run_bind, Sem.run_pure, Result.andThen_ok, this]
theorem gives_store_row {t : TypeId} {n : Nat} (ht : RowT t n) {o : Oper} {a : Act} {w : World} {b : Nat} {us vs : List Value} {R : Value → World → Prop} (k : RowAt w b us) (hu : us.length = n) (hl : vs.length = n) (ho1 : ∀ v ∈ vs, v.oneCell' = true) (x y : Operand) (ho : o.op = .store t x y) (hx : a.eval x = .pointer (some ⟨b, 0, none⟩)) (hy : a.eval y = .agg vs.toArray)
    (hR : R undef (w.setCells b 0 vs)) : Gives Try.prog (execOp a.eval o) w R := by
  have hs := run_storeVar_mid (P := Try.prog) w b 0 t vs.toArray (by rw [List.size_toArray, hl, ← hu]; exact k.free) (by rw [ht.info, List.size_toArray, hl]) (all_oneCell_toArray ho1)
  have hrun : (execOp a.eval o).run Try.prog w = .ok .skip (w.setCells b 0 vs) ∨ (execOp a.eval o).run Try.prog w = .ok (.value undef) (w.setCells b 0 vs) := by
    unfold execOp
    simp only [ho, hx, hy, Instr.storeAt, Instr.sureAddr, Sem.run_bind, Sem.run_pure, Result.andThen_ok, hs]
    simp
  unfold Gives
  rcases hrun with h | h <;> (rw [h]; exact hR)
end

/-! ### a region that reads, and calls what leaves a world of the class: one order serves for all -/
theorem wp_region_class {id : Nat} {C : World → Prop} {Q : Exit → Act → World → Prop} {a : Act} {w : World} {l : List Oper} (hB : Region.lexB .any l.toArray = true) (hC : C { w with drawn := w.drawn + 1 })
    (h : wpQuiet Try.prog l.toArray C (fun a' => ∀ w', C w' → Q .normal a' w') l a) : (Code.region id l.toArray true).wp Try.prog Q a w :=
  wp_region_quiet (C := C) (by kernel_rfl) hB hC (by simpa using h)
theorem wpQuiet_take {ops : Array Oper} {rest : List Oper} {op : Oper} {a : Act} {Q : Act → Prop} {C : World → Prop} (v : Value) (hw : Region.wanted op (yielded ops a.tmps) = true) (hrun : ∀ w, C w → (execOp a.eval op).run Try.prog w = .ok (.value v) w)
    (h : wpQuiet Try.prog ops C Q rest (a.put op.dst v)) : wpQuiet Try.prog ops C Q (op :: rest) a := by
  refine wpQuiet_step (fun K hK => ?_)
  rw [if_pos hw]
  refine ⟨v, fun w hC => ?_, hK _ h⟩
  unfold Oper.quietAt
  rw [hrun w hC]
  exact ⟨rfl, rfl⟩
theorem wpQuiet_call {ops : Array Oper} {rest : List Oper} {op : Oper} {a : Act} {Q : Act → Prop} {C : World → Prop} (f : FuncId) (args : Array Value) (v : Value) (hw : Region.wanted op (yielded ops a.tmps) = true) (hrun : ∀ w, (execOp a.eval op).run Try.prog w = .ok (.enter f args) w)
    (hcall : ∀ w, C w → Calls Try.prog f args w fun e w' => e = .returned v ∧ C w') (h : wpQuiet Try.prog ops C Q rest (a.put op.dst v)) : wpQuiet Try.prog ops C Q (op :: rest) a := by
  refine wpQuiet_step (fun K hK => ?_)
  rw [if_pos hw]
  refine ⟨v, fun w hC => ?_, hK _ h⟩
  unfold Oper.quietAt
  rw [hrun w]
  exact ⟨rfl, hcall w hC⟩
theorem wpQuiet_row {ops : Array Oper} {rest : List Oper} {op : Oper} {a : Act} {Q : Act → Prop} {C : World → Prop} {t : TypeId} {n b : Nat} {vs : List Value} (ht : RowT t n) (hl : vs.length = n) (x : Operand) (ho : op.op = .load t x) (hx : a.eval x = .pointer (some ⟨b, 0, none⟩)) (hw : Region.wanted op (yielded ops a.tmps) = true)
    (hC : ∀ w, C w → RowAt w b vs) (h : wpQuiet Try.prog ops C Q rest (a.put op.dst (.agg vs.toArray))) : wpQuiet Try.prog ops C Q (op :: rest) a := by
  refine wpQuiet_take (.agg vs.toArray) hw (fun w hc => ?_) h
  unfold execOp
  have := (hC w hc).loads ht hl
  simp only [ho, hx, Instr.loadAt, Instr.sureAddr, Sem.run_bind, Sem.run_pure, Result.andThen_ok, this]
theorem wpQuiet_page {ops : Array Oper} {rest : List Oper} {op : Oper} {a : Act} {Q : Act → Prop} {C : World → Prop} {b : Nat} {p : List UInt8} (x : Operand) (ho : op.op = .load 32 x) (hx : a.eval x = .pointer (some ⟨b, 0, none⟩)) (hw : Region.wanted op (yielded ops a.tmps) = true)
    (hC : ∀ w, C w → PageAt w b p) (h : wpQuiet Try.prog ops C Q rest (a.put op.dst (pageV p))) : wpQuiet Try.prog ops C Q (op :: rest) a := by
  refine wpQuiet_take (pageV p) hw (fun w hc => ?_) h
  unfold execOp
  have := (hC w hc).loads
  simp only [ho, hx, Instr.loadAt, Instr.sureAddr, Sem.run_bind, Sem.run_pure, Result.andThen_ok, this]
theorem below_size {w : World} : Below w.heap.size w w := Below.refl _ _
end Go.Proofs.Ytejedkdlehgnpaa
