/-
  The base of the plain stages: structs and rows in memory, slices of structs that came in and that a call makes, regions gone through in one order, results, arguments opened.
-/
import Derived.Test.YthccgfnoolbiiaaRows
import Derived.WalkKit
import Derived.WalkSpells
import Derived.WalkLawsBesides
import Derived.Laws.BitsAllLaws
import Derived.Lib.Hide
import Derived.Deep.MidRow
import Derived.ChangeKeysEq
import Derived.Below
import Derived.BigQuiet
import Derived.ProofKit
import Derived.OpenShut
import Derived.ChangeMaps5
import Derived.ShutString
import Derived.ChangeOld
import Derived.Lib.SmallJoins
import Derived.Deep.Slices
import Derived.Maps.AppendAt
import Derived.OwnWalk
namespace Go.Proofs.Ythccgfnoolbiiaa
open Go.ChangeShapes Go.WideShapes Go.ChangeAt Go.RowKit Go.Maps

theorem ret_int {k : IntKind} {a b : Int} (h : a = b) : Ending.returned (.int k a) = .returned (.int k b) := by rw [h]
theorem ret_bool {a b : Bool} (h : a = b) : Ending.returned (.bool a) = .returned (.bool b) := by rw [h]
theorem ret_str {a b : ByteArray} (h : a = b) : Ending.returned (.string a) = .returned (.string b) := by rw [h]
theorem laidOut : laidOutB Try.prog = true := by kernel_rfl
theorem own : ownKnob Try.prog.godebug = none := by kernel_rfl
theorem results_tmp3 {fn : Func} {t u v : Tmp} (h : fn.results = #[.tmp t, .tmp u, .tmp v]) (tmps : Array Value) (P : Program) (w : World) :
    (results fn tmps).run P w = .ok (.tuple #[tmps.getD t undef, tmps.getD u undef, tmps.getD v undef]) w := by
  simp [results, h]
theorem results_tmp4 {fn : Func} {t u v x : Tmp} (h : fn.results = #[.tmp t, .tmp u, .tmp v, .tmp x]) (tmps : Array Value) (P : Program) (w : World) :
    (results fn tmps).run P w = .ok (.tuple #[tmps.getD t undef, tmps.getD u undef, tmps.getD v undef, tmps.getD x undef]) w := by
  simp [results, h]
theorem there_new (w : World) (Z : Array Value) (t : TypeId) (n : Nat) (h : n ≤ Z.size) : (w.alloc (.cells Z t)).there w.heap.size 0 n := by
  intro j hj
  rw [Nat.zero_add, World.cell?_alloc_mark, World.frozen?_alloc_mark, Array.getElem?_eq_getElem (by omega)]
  exact ⟨rfl, by simp⟩
theorem below_setCells {B : Nat} {a : World} (b : Nat) (hb : B ≤ b) : ∀ (vs : List Value) (o : Nat) (w : World), Below B a w → Below B a (w.setCells b o vs)
  | [], _, _, h => h
  | v :: r, o, w, h => by
    rw [World.setCells]
    exact below_setCells b hb r (o + 1) _ (h.setCell (by exact hb) v)
theorem heap_setCells (b : Nat) : ∀ (vs : List Value) (o : Nat) (w : World), (w.setCells b o vs).heap.size = w.heap.size
  | [], _, _ => rfl
  | v :: r, o, w => by
    rw [World.setCells, heap_setCells b r (o + 1)]; simp
theorem below_drewN (w : World) (n : Nat) : Below w.heap.size w (w.drewN n) := ⟨rfl, rfl, rfl, Nat.le_refl _, fun _ _ => rfl⟩
/-- a row of cells in a block of its own, that may be written -/
structure RowAt (w : World) (b : Nat) (vs : List Value) : Prop where
  range : w.rangeAt b 0 vs
  free : w.there b 0 vs.length
theorem RowAt.cell {w : World} {b : Nat} {vs : List Value} (h : RowAt w b vs) (j : Nat) (v : Value) (hv : vs[j]? = some v) : w.cell? ⟨b, j, none⟩ = some v := by
  have := h.range j v hv
  rwa [Nat.zero_add] at this
theorem RowAt.frozen {w : World} {b : Nat} {vs : List Value} (h : RowAt w b vs) (j : Nat) (hj : j < vs.length) : w.frozen? ⟨b, j, none⟩ = false := by
  have := (h.free j hj).2
  rwa [Nat.zero_add] at this
theorem RowAt.lt {w : World} {b : Nat} {v : Value} {vs : List Value} (h : RowAt w b (v :: vs)) : b < w.heap.size := World.block_lt_of_cell? w _ (h.cell 0 v rfl)
theorem rowAt_new (w : World) (vs : List Value) (t : TypeId) : RowAt (w.alloc (.cells vs.toArray t)) w.heap.size vs where
  range := fun j v hv => by
    rw [Nat.zero_add, World.cell?_alloc_mark]
    simpa using hv
  free := there_new w _ t _ (by rw [List.size_toArray]; exact Nat.le_refl _)
theorem RowAt.alloc {w : World} {b : Nat} {vs : List Value} (h : RowAt w b vs) (o : Obj) : RowAt (w.alloc o) b vs := ⟨World.rangeAt_alloc h.range o, World.there_alloc h.free o⟩
theorem RowAt.drew {w : World} {b : Nat} {vs : List Value} (h : RowAt w b vs) : RowAt w.drew b vs := ⟨(World.rangeAt_drew ..).2 h.range, (World.there_drew ..).2 h.free⟩
theorem RowAt.below {n : Nat} {w w' : World} {b : Nat} {vs : List Value} (h : RowAt w b vs) (hb : Below n w w') (hn : b < n) : RowAt w' b vs where
  range := fun j v hv => (hb.cell (p := ⟨b, 0 + j, none⟩) hn).trans (h.range j v hv)
  free := fun j hj => by
    rw [hb.cell (p := ⟨b, 0 + j, none⟩) hn, hb.frozen (p := ⟨b, 0 + j, none⟩) hn]
    exact h.free j hj
theorem RowAt.step {w w' : World} {b : Nat} {v : Value} {vs : List Value} (h : RowAt w b (v :: vs)) (hb : Below w.heap.size w w') : RowAt w' b (v :: vs) := h.below hb h.lt
theorem RowAt.put {w : World} {b : Nat} {vs : List Value} (h : RowAt w b vs) (us : List Value) (hl : us.length = vs.length) : RowAt (w.setCells b 0 us) b us where
  range := World.rangeAt_setCells_same _ _ _ _ (by rw [hl]; exact h.free)
  free := World.there_setCells (by rw [hl]; exact h.free) _ _ _
theorem RowAt.put_other {w : World} {b : Nat} {vs : List Value} (h : RowAt w b vs) (b' o : Nat) (us : List Value) (hb : b ≠ b') : RowAt (w.setCells b' o us) b vs where
  range := World.rangeAt_setCells_apart h.range _ _ _ (Or.inl hb)
  free := World.there_setCells h.free _ _ _
/-- a struct's type: how many cells it has -/
structure RowT (t : TypeId) (n : Nat) : Prop where
  row : ∃ d, Try.prog.underlying t = some d ∧ d.isRow = true
  info : (Try.prog.info? t).map (·.size) = some n
theorem RowAt.loads {t : TypeId} {n : Nat} (ht : RowT t n) {w : World} {b : Nat} {vs : List Value} (k : RowAt w b vs) (hl : vs.length = n) : (loadVar t ⟨b, 0, none⟩).run Try.prog w = .ok (.agg vs.toArray) w := by
  obtain ⟨d, hd, hr⟩ := ht.row
  exact run_loadVar_mid (P := Try.prog) w b 0 t vs d k.range hd hr (by rw [ht.info, hl])
theorem wpList_load_row {t : TypeId} {n : Nat} (ht : RowT t n) {ops : Array Oper} {rest : List Oper} {op : Oper} {a : Act} {Q : Exit → Act → World → Prop} {w : World} {b : Nat} {vs : List Value} (k : RowAt w b vs) (hl : vs.length = n) (hgd : op.guard = none) (x : Operand) (ho : op.op = .load t x)
    (hx : a.eval x = .pointer (some ⟨b, 0, none⟩)) (hn : wpList Try.prog ops Q rest (a.put op.dst (.agg vs.toArray)) w) : wpList Try.prog ops Q (op :: rest) a w := by
  obtain ⟨d, hd, hr⟩ := ht.row
  exact wpList_load_mid hgd t x ho b 0 hx vs d k.range hd hr (by rw [ht.info, hl]) hn
theorem wpList_loadg_row {t : TypeId} {n : Nat} (ht : RowT t n) {ops : Array Oper} {rest : List Oper} {op : Oper} {a : Act} {Q : Exit → Act → World → Prop} {w : World} {b : Nat} {vs : List Value} (k : RowAt w b vs) (hl : vs.length = n) (x : Operand) (ho : op.op = .load t x)
    (hx : a.eval x = .pointer (some ⟨b, 0, none⟩)) (hw : Region.wanted op (yielded ops a.tmps) = true) (hn : wpList Try.prog ops Q rest (a.put op.dst (.agg vs.toArray)) w) : wpList Try.prog ops Q (op :: rest) a w := by
  obtain ⟨d, hd, hr⟩ := ht.row
  exact BigFrame.wpList_want hw fun _ hK => wp_load_mid t x ho b 0 hx vs d k.range hd hr (by rw [ht.info, hl]) (hK _ _ hn)
theorem wpList_store_row {t : TypeId} {n : Nat} (ht : RowT t n) {ops : Array Oper} {rest : List Oper} {op : Oper} {a : Act} {Q : Exit → Act → World → Prop} {w : World} {b : Nat} {us vs : List Value} (k : RowAt w b us) (hu : us.length = n) (hl : vs.length = n) (ho1 : ∀ v ∈ vs, v.oneCell' = true) (hgd : op.guard = none) (x y : Operand) (ho : op.op = .store t x y)
    (hx : a.eval x = .pointer (some ⟨b, 0, none⟩)) (hy : a.eval y = .agg vs.toArray) (hn : wpList Try.prog ops Q rest (a.put op.dst undef) (w.setCells b 0 vs)) : wpList Try.prog ops Q (op :: rest) a w :=
  wpList_store_mid hgd t x y ho b 0 vs.toArray hx hy (by rw [List.size_toArray, hl, ← hu]; exact k.free) (by rw [ht.info, List.size_toArray, hl]) (all_oneCell_toArray ho1) (by simpa using hn)
theorem wpList_store_newrow {t : TypeId} {n : Nat} (ht : RowT t n) {ops : Array Oper} {rest : List Oper} {op : Oper} {a : Act} {Q : Exit → Act → World → Prop} {w : World} {Z : Array Value} {u : TypeId} {vs : List Value} (hl : vs.length = n) (ho1 : ∀ v ∈ vs, v.oneCell' = true) (hgd : op.guard = none) (x y : Operand) (ho : op.op = .store t x y)
    (hx : a.eval x = .pointer (some ⟨w.heap.size, 0, none⟩)) (hy : a.eval y = .agg vs.toArray) (hZ : Z.size = n)
    (hn : ∀ W2, RowAt W2 w.heap.size vs → Below w.heap.size w W2 → W2.heap.size = w.heap.size + 1 → wpList Try.prog ops Q rest (a.put op.dst undef) W2) :
    wpList Try.prog ops Q (op :: rest) a (w.alloc (.cells Z u)) := by
  have hth : (w.alloc (.cells Z u)).there w.heap.size 0 vs.length := there_new w Z u _ (by omega)
  refine wpList_store_mid hgd t x y ho w.heap.size 0 vs.toArray hx hy (by rw [List.size_toArray]; exact hth) (by rw [ht.info, List.size_toArray, hl]) (all_oneCell_toArray ho1) (hn _ ?_ ?_ ?_)
  · exact ⟨World.rangeAt_setCells_same _ _ _ _ hth, World.there_setCells hth _ _ _⟩
  · exact below_setCells _ (Nat.le_refl _) _ _ _ ((Below.refl _ _).alloc (Nat.le_refl _) _)
  · rw [heap_setCells]; simp
/-- results: a struct in a block, and a plain value -/
theorem results_row {t : TypeId} {n : Nat} (ht : RowT t n) (fn : Func) (s : Nat) (hf : fn.results = #[.cell s t]) {w : World} {b : Nat} {vs : List Value} (tmps : Array Value) (k : RowAt w b vs) (hl : vs.length = n) (hs : tmps.getD s undef = .pointer (some ⟨b, 0, none⟩)) :
    (results fn tmps).run Try.prog w = .ok (.agg vs.toArray) w := by
  have hl := k.loads ht hl
  unfold results
  rw [hf]
  simp only [Array.mapM_eq_mapM_toList, List.mapM_cons, List.mapM_nil, hs, asAddr, Sem.run_bind, Sem.run_pure, Result.andThen_ok, hl, Sem.run_map]
  rfl
theorem results_row2 {t : TypeId} {n : Nat} (ht : RowT t n) (fn : Func) (s r : Nat) (hf : fn.results = #[.cell s t, .tmp r]) {w : World} {b : Nat} {vs : List Value} {v : Value} (tmps : Array Value) (k : RowAt w b vs) (hl : vs.length = n) (hs : tmps.getD s undef = .pointer (some ⟨b, 0, none⟩)) (hr : tmps.getD r undef = v) :
    (results fn tmps).run Try.prog w = .ok (.tuple #[.agg vs.toArray, v]) w := by
  have hl := k.loads ht hl
  unfold results
  rw [hf]
  simp only [Array.mapM_eq_mapM_toList, List.mapM_cons, List.mapM_nil, hs, hr, asAddr, Sem.run_bind, Sem.run_pure, Result.andThen_ok, hl, Sem.run_map]
  rfl
theorem wp_region_class {id : Nat} {C : World → Prop} {Q : Exit → Act → World → Prop} {a : Act} {w : World} {l : List Oper} (hB : Region.lexB .any l.toArray = true) (hC : C { w with drawn := w.drawn + 1 })
    (h : wpQuiet Try.prog l.toArray C (fun a' => ∀ w', C w' → Q .normal a' w') l a) : (Code.region id l.toArray true).wp Try.prog Q a w :=
  wp_region_quiet (C := C) (by kernel_rfl) hB hC (by simpa using h)
theorem wpQuiet_take {ops : Array Oper} {rest : List Oper} {op : Oper} {a : Act} {Q : Act → Prop} {C : World → Prop} (v : Value) (hw : Region.wanted op (yielded ops a.tmps) = true) (hrun : ∀ w, C w → (execOp a.eval op).run Try.prog w = .ok (.value v) w)
    (h : wpQuiet Try.prog ops C Q rest (a.put op.dst v)) : wpQuiet Try.prog ops C Q (op :: rest) a := by
  refine wpQuiet_step (fun K hK => ?_)
  rw [if_pos hw]
  refine ⟨v, fun w hC => ?_, hK _ h⟩
  unfold Oper.quietAt
  rw [hrun w hC]
  exact ⟨rfl, rfl⟩
theorem wpQuiet_call {ops : Array Oper} {rest : List Oper} {op : Oper} {a : Act} {Q : Act → Prop} {C : World → Prop} (f : FuncId) (args : Array Value) (v : Value) (hw : Region.wanted op (yielded ops a.tmps) = true) (hrun : ∀ w, (execOp a.eval op).run Try.prog w = .ok (.enter f args) w)
    (hcall : ∀ w, C w → Calls Try.prog f args w fun e w' => e = .returned v ∧ C w') (h : wpQuiet Try.prog ops C Q rest (a.put op.dst v)) : wpQuiet Try.prog ops C Q (op :: rest) a := by
  refine wpQuiet_step (fun K hK => ?_)
  rw [if_pos hw]
  refine ⟨v, fun w hC => ?_, hK _ h⟩
  unfold Oper.quietAt
  rw [hrun w]
  exact ⟨rfl, hcall w hC⟩
theorem wpQuiet_row {ops : Array Oper} {rest : List Oper} {op : Oper} {a : Act} {Q : Act → Prop} {C : World → Prop} {t : TypeId} {n b : Nat} {vs : List Value} (ht : RowT t n) (hl : vs.length = n) (x : Operand) (ho : op.op = .load t x) (hx : a.eval x = .pointer (some ⟨b, 0, none⟩)) (hw : Region.wanted op (yielded ops a.tmps) = true)
    (hC : ∀ w, C w → RowAt w b vs) (h : wpQuiet Try.prog ops C Q rest (a.put op.dst (.agg vs.toArray))) : wpQuiet Try.prog ops C Q (op :: rest) a := by
  refine wpQuiet_take (.agg vs.toArray) hw (fun w hc => ?_) h
  unfold execOp
  have := (hC w hc).loads ht hl
  simp only [ho, hx, Instr.loadAt, Instr.sureAddr, Sem.run_bind, Sem.run_pure, Result.andThen_ok, this]
structure RowsS (w0 : World) (l : List (Nat × List Value)) (W : World) : Prop where
  rows : ∀ x ∈ l, RowAt W x.1 x.2 ∧ 0 < x.2.length
  below : Below w0.heap.size w0 W
theorem rows_lt {W : World} {b : Nat} {vs : List Value} (k : RowAt W b vs) (h : 0 < vs.length) : b < W.heap.size :=
  World.block_lt_of_cell? W _ (k.cell 0 _ (List.getElem?_eq_getElem h))
theorem RowsS.call {w0 : World} {l : List (Nat × List Value)} {W W' : World} (k : RowsS w0 l W) (hb : Below W.heap.size W W') : RowsS w0 l W' :=
  ⟨fun x hx => ⟨(k.rows x hx).1.below hb (rows_lt (k.rows x hx).1 (k.rows x hx).2), (k.rows x hx).2⟩, k.below.trans (hb.mono k.below.size)⟩
theorem RowsS.drew {w0 : World} {l : List (Nat × List Value)} {W : World} (k : RowsS w0 l W) : RowsS w0 l W.drew :=
  ⟨fun x hx => ⟨(k.rows x hx).1.drew, (k.rows x hx).2⟩, k.below.drew⟩
theorem RowsS.drewN {w0 : World} {l : List (Nat × List Value)} {W : World} (k : RowsS w0 l W) (n : Nat) : RowsS w0 l (W.drewN n) := k.call (below_drewN W n)
theorem RowsS.add {w0 : World} {l : List (Nat × List Value)} {W W2 : World} {vs : List Value} (k : RowsS w0 l W) (hb : Below W.heap.size W W2) (hr : RowAt W2 W.heap.size vs) (h : 0 < vs.length) : RowsS w0 ((W.heap.size, vs) :: l) W2 where
  rows := fun x hx => by
    rcases List.mem_cons.1 hx with rfl | hx
    · exact ⟨hr, h⟩
    · exact (k.call hb).rows x hx
  below := (k.call hb).below
theorem RowsS.at0 {w0 : World} {l : List (Nat × List Value)} {W : World} {b : Nat} {vs : List Value} (k : RowsS w0 ((b, vs) :: l) W) : RowAt W b vs := (k.rows _ (List.mem_cons_self ..)).1
theorem RowsS.tl {w0 : World} {l : List (Nat × List Value)} {W : World} {x : Nat × List Value} (k : RowsS w0 (x :: l) W) : RowsS w0 l W := ⟨fun y hy => k.rows y (List.mem_cons_of_mem _ hy), k.below⟩
/-- the walk over a region of one class, closed against being run: where many operations are passed over, the open one runs through them at each step -/
structure Wq (ops : Array Oper) (C : World → Prop) (Q : Act → Prop) (l : List Oper) (a : Act) : Prop where
  open_ : wpQuiet Try.prog ops C Q l a
section
variable {ops : Array Oper} {rest : List Oper} {op : Oper} {a : Act} {Q : Act → Prop} {C : World → Prop}
theorem wq_region {id : Nat} {Q : Exit → Act → World → Prop} {w : World} {l : List Oper} (hB : Region.lexB .any l.toArray = true) (hC : C { w with drawn := w.drawn + 1 })
    (h : Wq l.toArray C (fun a' => ∀ w', C w' → Q .normal a' w') l a) : (Code.region id l.toArray true).wp Try.prog Q a w := wp_region_class hB hC h.open_
theorem wq_nil (h : Q a) : Wq ops C Q [] a := ⟨wpQuiet_nil h⟩
theorem wq_pass (hw : Region.wanted op (yielded ops a.tmps) = false) (h : Wq ops C Q rest (a.put op.dst undef)) : Wq ops C Q (op :: rest) a := ⟨BigFrame.wpQuiet_skip hw h.open_⟩
theorem wq_take (v : Value) (hw : Region.wanted op (yielded ops a.tmps) = true) (hrun : ∀ w, C w → (execOp a.eval op).run Try.prog w = .ok (.value v) w)
    (h : Wq ops C Q rest (a.put op.dst v)) : Wq ops C Q (op :: rest) a := ⟨wpQuiet_take v hw hrun h.open_⟩
theorem wq_call (f : FuncId) (args : Array Value) (v : Value) (hw : Region.wanted op (yielded ops a.tmps) = true) (hrun : ∀ w, (execOp a.eval op).run Try.prog w = .ok (.enter f args) w)
    (hcall : ∀ w, C w → Calls Try.prog f args w fun e w' => e = .returned v ∧ C w') (h : Wq ops C Q rest (a.put op.dst v)) : Wq ops C Q (op :: rest) a := ⟨wpQuiet_call f args v hw hrun hcall h.open_⟩
theorem wq_row {t : TypeId} {n b : Nat} {vs : List Value} (ht : RowT t n) (hl : vs.length = n) (x : Operand) (ho : op.op = .load t x) (hx : a.eval x = .pointer (some ⟨b, 0, none⟩)) (hw : Region.wanted op (yielded ops a.tmps) = true)
    (hC : ∀ w, C w → RowAt w b vs) (h : Wq ops C Q rest (a.put op.dst (.agg vs.toArray))) : Wq ops C Q (op :: rest) a := ⟨wpQuiet_row ht hl x ho hx hw hC h.open_⟩
end
/-- a comparison whose two sides are known -/
theorem run_held {ρ : Operand → Value} {op : Oper} {o : BinOp} {t u : TypeId} {x y : Operand} {A B r : Value} {w : World} (ho : op.op = .binOp o t x y u) (hx : ρ x = A) (hy : ρ y = B) (hg : (eqGuard o t x y A B).run Try.prog w = .ok () w) (hb : (binOp o t A B).run Try.prog w = .ok r w) :
    (execOp ρ op).run Try.prog w = .ok (.value r) w := by
  unfold execOp
  simp only [ho, hx, hy, Sem.run_bind, hg, hb, Result.andThen_ok, Sem.run_map, Sem.run_pure]
structure ManyAt (w : World) (A : Option Addr) (z : Nat) (rs : List (List Value)) : Prop where
  cells : 0 < rs.length → ∃ b off, A = some ⟨b, off, none⟩ ∧ b < w.heap.size ∧ ∀ i r, rs[i]? = some r → w.rangeAt b (off + i * z) r
theorem ManyAt.step {w w' : World} {A : Option Addr} {z : Nat} {rs : List (List Value)} (h : ManyAt w A z rs) (hb : Below w.heap.size w w') : ManyAt w' A z rs :=
  ⟨fun h0 => by
    obtain ⟨b, off, e, hlt, hc⟩ := h.cells h0
    exact ⟨b, off, e, Nat.lt_of_lt_of_le hlt hb.size, fun i r hi j v hv => (hb.cell (p := ⟨b, off + i * z + j, none⟩) hlt).trans (hc i r hi j v hv)⟩⟩
theorem list_of {α : Type} (P : Nat → α → Prop) : ∀ (n : Nat), (∀ i, i < n → ∃ a, P i a) → ∃ l : List α, l.length = n ∧ ∀ i, i < n → ∃ a, l[i]? = some a ∧ P i a
  | 0, _ => ⟨[], rfl, fun i hi => absurd hi (Nat.not_lt_zero _)⟩
  | n + 1, h => by
    obtain ⟨l, hl, hp⟩ := list_of P n (fun i hi => h i (by omega))
    obtain ⟨a, ha⟩ := h n (by omega)
    refine ⟨l ++ [a], by simp [hl], fun i hi => ?_⟩
    rcases Nat.lt_or_ge i n with hlt | hge
    · obtain ⟨x, hx, hpx⟩ := hp i hlt
      exact ⟨x, by rw [List.getElem?_append_left (by omega)]; exact hx, hpx⟩
    · obtain rfl : i = n := by omega
      exact ⟨a, by rw [List.getElem?_append_right (by omega), hl, Nat.sub_self]; rfl, ha⟩
theorem open_many {H : Type} {enc : TypeId × Value → H} {W : World} {base : Nat} {v : Value} {d : DataW H} {p : List MemPlace} {st et : TypeId} {z : Nat} (hz : 0 < z) (hst : Try.prog.underlying st = some (.slice et)) (hcz : Try.prog.cellsOf et = z) (G : List Value → Prop)
    (hG : ∀ (m k : Nat) (cs : List Value) (x : DataW H × List MemPlace), DataW.trod enc Try.prog W k (fun _ => true) true m et cs = some x → G cs)
    (hGz : ∀ cs, G cs → cs.length = z) (hv : Value.okWide Try.prog W .any base st v) (h : DataW.Trod enc Try.prog W 0 (fun _ => true) true st v d p) : ∃ A n c rs, v = .slice A n c ∧ rs.length = n ∧ (n ≤ c ∧ c ≤ maxLen) ∧ (∀ r ∈ rs, G r) ∧ ManyAt W A z rs := by
  obtain ⟨A, n, c, rfl⟩ := okWide_slice hst hv
  obtain ⟨fuel, hf⟩ := h
  rcases Go.Deep.open_slice hst hf with ⟨hcs, _⟩ | ⟨a, len, cap, m, k, D, Pl, hcs, _, hl, hm, hmm, _, hi⟩
  · simp [Value.cells] at hcs
    obtain ⟨rfl, rfl, rfl⟩ := hcs
    exact ⟨_, _, _, [], rfl, rfl, by unfold maxLen; omega, fun r hr => absurd hr (by simp), ⟨fun hn => by simp at hn⟩⟩
  · simp [Value.cells] at hcs
    obtain ⟨rfl, rfl, rfl⟩ := hcs
    simp only [if_true] at hmm
    have each : ∀ i, i < n → ∃ q : List Value, G q ∧ ∀ j u, q[j]? = some u → W.cell? ((a.add (i * z)).add j) = some u := by
      intro i hin
      obtain ⟨cs, hc, ht⟩ := hi i (by omega)
      rw [hcz] at hc
      obtain ⟨_, hcl, hat⟩ := World.cells?_some hc
      have hg := hG _ _ _ _ ht
      refine ⟨cs, hg, fun j u hu => ?_⟩
      have hj : j < z := by have := (List.getElem?_eq_some_iff.1 hu).1; have := hGz _ hg; omega
      rw [hat j hj, hu]
    obtain ⟨rs, hrl, hrs⟩ := list_of _ n each
    have hget : ∀ i r, rs[i]? = some r → G r ∧ ∀ j u, r[j]? = some u → W.cell? ((a.add (i * z)).add j) = some u := by
      intro i r hr
      have hin : i < n := by have := (List.getElem?_eq_some_iff.1 hr).1; omega
      obtain ⟨q, hq, h1⟩ := hrs i hin
      rw [hr] at hq
      injection hq with hq
      rw [hq]; exact h1
    refine ⟨_, _, _, rs, rfl, hrl, by omega, fun r hr => ?_, ⟨fun hn => ?_⟩⟩
    · obtain ⟨i, hi', he⟩ := List.getElem_of_mem hr
      exact (hget i r (by rw [List.getElem?_eq_getElem hi', he])).1
    · obtain ⟨r0, hr0⟩ : ∃ r, rs[0]? = some r := ⟨_, List.getElem?_eq_getElem (by omega)⟩
      obtain ⟨b, off, spot⟩ := a
      obtain ⟨hz0, hc0⟩ := hget 0 r0 hr0
      have hl0 := hGz _ hz0
      have hcell0 := hc0 0 _ (List.getElem?_eq_getElem (by omega))
      have hspot : spot = none := by simpa [Addr.add] using World.cell?_spot hcell0
      subst hspot
      refine ⟨b, off, rfl, ?_, fun i r hr j u hu => ?_⟩
      · rw [Addr.add_mid, Addr.add_mid] at hcell0
        exact World.block_lt_of_cell? W _ hcell0
      · have := (hget i r hr).2 j u hu
        rw [Addr.add_mid, Addr.add_mid] at this
        exact this
theorem owns_below {w w' : World} {base : Nat} {e : TypeId} {size : Nat} {v : Value} {n : Nat} {xs : List Value} (h : w.ownsRow base e size v n xs) (hb : Below w.heap.size w w') : w'.ownsRow base e size v n xs := by
  refine ⟨h.1, ?_⟩
  rcases h.2 with h2 | ⟨g, cap, cur, h1, h2, h3, h4⟩
  · exact Or.inl h2
  · exact Or.inr ⟨g, cap, cur, h1, h2, (hb.block g (Array.getElem?_eq_some_iff.1 h3).1).trans h3, h4⟩
theorem owns_slice {w : World} {base : Nat} {e : TypeId} {size : Nat} {v : Value} {k : Nat} {xs : List Value} (h : w.ownsRow base e size v k xs) : ∃ A c, v = .slice A k c := by
  rcases h.2 with ⟨e1, e2⟩ | ⟨g, cap, cur, e1, _⟩
  · exact ⟨none, 0, by rw [e1, e2]⟩
  · exact ⟨_, _, e1⟩
theorem cell_new (w : World) (vs : List Value) (t : TypeId) : ∀ j u, vs[j]? = some u → (w.alloc (.cells vs.toArray t)).cell? ((⟨w.heap.size, 0, none⟩ : Addr).add j) = some u := fun j u hj => by
  have := (rowAt_new w vs t).range j u hj
  rw [Nat.zero_add] at this
  unfold Addr.add
  by_cases e : j = 0
  · subst e; rw [if_pos rfl]; exact this
  · rw [if_neg e, Nat.zero_add]; exact this
theorem wpList_load_at {t : TypeId} {n : Nat} (ht : RowT t n) {ops : Array Oper} {rest : List Oper} {op : Oper} {a : Act} {Q : Exit → Act → World → Prop} {w : World} {b o : Nat} {vs : List Value} (hr : w.rangeAt b o vs) (hl : vs.length = n) (hgd : op.guard = none) (x : Operand) (ho : op.op = .load t x)
    (hx : a.eval x = .pointer (some ⟨b, o, none⟩)) (h : wpList Try.prog ops Q rest (a.put op.dst (.agg vs.toArray)) w) : wpList Try.prog ops Q (op :: rest) a w := by
  obtain ⟨d, hd, hrow⟩ := ht.row
  exact wpList_load_mid hgd t x ho b o hx vs d hr hd hrow (by rw [ht.info, hl]) h
theorem okWide_array {P : Program} {w : World} {r : Reach} {base : Nat} {t : TypeId} {v : Value} {n : Nat} {e : TypeId} (ht : P.underlying t = some (.array n e)) (h : Value.okWide P w r base t v) : ∃ cs, v = .agg cs ∧ cs.size = P.cellsOf t := by
  simp only [Value.okWide, ht] at h
  obtain ⟨cs, h1, h2, _⟩ := h
  exact ⟨cs, h1, h2⟩
end Go.Proofs.Ythccgfnoolbiiaa
