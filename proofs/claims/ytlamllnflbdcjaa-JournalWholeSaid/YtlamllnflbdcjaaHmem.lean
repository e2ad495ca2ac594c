/-
  Heads in memory: a row of cells in a block of its own, loaded and stored whole; the same in a region that draws its order.
-/
import Derived.Test.YtlamllnflbdcjaaHenc
import Derived.Test.YtlamllnflbdcjaaHlin
namespace Go.Proofs.Ytlamllnflbdcjaa
open Go.RowKit
open Dk (zeros zeros_length)
open Hd (Head rightB pageH)

/-- a row of cells in a block of its own, that may be written -/
structure RowAt (w : World) (b : Nat) (vs : List Value) : Prop where
  range : w.rangeAt b 0 vs
  free : w.there b 0 vs.length
theorem RowAt.cell {w : World} {b : Nat} {vs : List Value} (h : RowAt w b vs) (j : Nat) (v : Value) (hv : vs[j]? = some v) : w.cell? ⟨b, j, none⟩ = some v := by
  have := h.range j v hv
  rwa [Nat.zero_add] at this
theorem RowAt.lt {w : World} {b : Nat} {v : Value} {vs : List Value} (h : RowAt w b (v :: vs)) : b < w.heap.size := World.block_lt_of_cell? w _ (h.cell 0 v rfl)
theorem rowAt_new (w : World) (vs : List Value) (t : TypeId) : RowAt (w.alloc (.cells vs.toArray t)) w.heap.size vs where
  range := fun j v hv => by
    rw [Nat.zero_add, World.cell?_alloc_mark]
    simpa using hv
  free := there_new w _ t _ (by rw [List.size_toArray]; exact Nat.le_refl _)
theorem RowAt.alloc {w : World} {b : Nat} {vs : List Value} (h : RowAt w b vs) (o : Obj) : RowAt (w.alloc o) b vs := ⟨World.rangeAt_alloc h.range o, World.there_alloc h.free o⟩
theorem RowAt.drew {w : World} {b : Nat} {vs : List Value} (h : RowAt w b vs) : RowAt w.drew b vs := ⟨(World.rangeAt_drew ..).2 h.range, (World.there_drew ..).2 h.free⟩
theorem RowAt.below {n : Nat} {w w' : World} {b : Nat} {vs : List Value} (h : RowAt w b vs) (hb : Below n w w') (hn : b < n) : RowAt w' b vs where
  range := fun j v hv => (hb.cell (p := ⟨b, 0 + j, none⟩) hn).trans (h.range j v hv)
  free := fun j hj => by
    rw [hb.cell (p := ⟨b, 0 + j, none⟩) hn, hb.frozen (p := ⟨b, 0 + j, none⟩) hn]
    exact h.free j hj
theorem RowAt.put {w : World} {b : Nat} {vs : List Value} (h : RowAt w b vs) (us : List Value) (hl : us.length = vs.length) : RowAt (w.setCells b 0 us) b us where
  range := World.rangeAt_setCells_same _ _ _ _ (by rw [hl]; exact h.free)
  free := World.there_setCells (by rw [hl]; exact h.free) _ _ _
theorem RowAt.put_other {w : World} {b : Nat} {vs : List Value} (h : RowAt w b vs) (b' o : Nat) (us : List Value) (hb : b ≠ b') : RowAt (w.setCells b' o us) b vs where
  range := World.rangeAt_setCells_apart h.range _ _ _ (Or.inl hb)
  free := World.there_setCells h.free _ _ _

/-! ### heads -/
def headVals (h : Head) : List Value := [.int .i64 h.seq, .bool h.live, .int .i64 h.count, .int .u32 h.sum]
theorem headV_def (h : Head) : Value.agg (headVals h).toArray = headV h := rfl
theorem headVals_one (h : Head) : ∀ v ∈ headVals h, v.oneCell' = true := by
  intro v hv
  simp only [headVals, List.mem_cons, List.not_mem_nil, or_false] at hv
  rcases hv with rfl | rfl | rfl | rfl <;> rfl
/-- a head in a block of its own -/
def HeadAt (w : World) (b : Nat) (h : Head) : Prop := RowAt w b (headVals h)
theorem HeadAt.c0 {w : World} {b : Nat} {h : Head} (k : HeadAt w b h) : w.cell? ⟨b, 0, none⟩ = some (.int .i64 h.seq) := RowAt.cell k 0 _ rfl
theorem HeadAt.c1 {w : World} {b : Nat} {h : Head} (k : HeadAt w b h) : w.cell? ⟨b, 1, none⟩ = some (.bool h.live) := RowAt.cell k 1 _ rfl
theorem HeadAt.c2 {w : World} {b : Nat} {h : Head} (k : HeadAt w b h) : w.cell? ⟨b, 2, none⟩ = some (.int .i64 h.count) := RowAt.cell k 2 _ rfl
theorem HeadAt.c3 {w : World} {b : Nat} {h : Head} (k : HeadAt w b h) : w.cell? ⟨b, 3, none⟩ = some (.int .u32 h.sum) := RowAt.cell k 3 _ rfl
theorem HeadAt.lt {w : World} {b : Nat} {h : Head} (k : HeadAt w b h) : b < w.heap.size := RowAt.lt k
theorem HeadAt.alloc {w : World} {b : Nat} {h : Head} (k : HeadAt w b h) (o : Obj) : HeadAt (w.alloc o) b h := RowAt.alloc k o
theorem HeadAt.drew {w : World} {b : Nat} {h : Head} (k : HeadAt w b h) : HeadAt w.drew b h := RowAt.drew k
theorem HeadAt.below {n : Nat} {w w' : World} {b : Nat} {h : Head} (k : HeadAt w b h) (hb : Below n w w') (hn : b < n) : HeadAt w' b h := RowAt.below k hb hn
theorem HeadAt.put {w : World} {b : Nat} {h : Head} (k : HeadAt w b h) (g : Head) : HeadAt (w.setCells b 0 (headVals g)) b g := RowAt.put k _ rfl
theorem HeadAt.put_other {w : World} {b : Nat} {h : Head} (k : HeadAt w b h) (b' o : Nat) (us : List Value) (hb : b ≠ b') : HeadAt (w.setCells b' o us) b h := RowAt.put_other k b' o us hb
theorem headAt_new (w : World) (h : Head) (t : TypeId) : HeadAt (w.alloc (.cells (headVals h).toArray t)) w.heap.size h := rowAt_new w _ t

/-- a head's type: its cells -/
structure HeadT (t : TypeId) : Prop where
  row : ∃ d, Try.prog.underlying t = some d ∧ d.isRow = true
  info : (Try.prog.info? t).map (·.size) = some 4
theorem headT : HeadT 73 := ⟨⟨_, Try.underlying73, rfl⟩, by kernel_rfl⟩

theorem HeadAt.loads {t : TypeId} (ht : HeadT t) {w : World} {b : Nat} {h : Head} (k : HeadAt w b h) : (loadVar t ⟨b, 0, none⟩).run Try.prog w = .ok (headV h) w := by
  obtain ⟨d, hd, hr⟩ := ht.row
  exact run_loadVar_mid (P := Try.prog) w b 0 t (headVals h) d k.range hd hr ht.info
theorem wpList_load_head {t : TypeId} (ht : HeadT t) {ops : Array Oper} {rest : List Oper} {op : Oper} {a : Act} {Q : Exit → Act → World → Prop} {w : World} {b : Nat} {h : Head} (k : HeadAt w b h) (hgd : op.guard = none) (x : Operand) (ho : op.op = .load t x)
    (hx : a.eval x = .pointer (some ⟨b, 0, none⟩)) (hn : wpList Try.prog ops Q rest (a.put op.dst (headV h)) w) : wpList Try.prog ops Q (op :: rest) a w := by
  obtain ⟨d, hd, hr⟩ := ht.row
  exact wpList_load_mid hgd t x ho b 0 hx (headVals h) d k.range hd hr ht.info hn
theorem wpList_store_head {t : TypeId} (ht : HeadT t) {ops : Array Oper} {rest : List Oper} {op : Oper} {a : Act} {Q : Exit → Act → World → Prop} {w : World} {b : Nat} {g h : Head} (k : HeadAt w b g) (hgd : op.guard = none) (x y : Operand) (ho : op.op = .store t x y)
    (hx : a.eval x = .pointer (some ⟨b, 0, none⟩)) (hy : a.eval y = headV h) (hn : wpList Try.prog ops Q rest (a.put op.dst undef) (w.setCells b 0 (headVals h))) : wpList Try.prog ops Q (op :: rest) a w :=
  wpList_store_mid hgd t x y ho b 0 (headVals h).toArray hx hy k.free ht.info (all_oneCell_toArray (headVals_one h)) (by simpa using hn)
theorem wpList_store_newhead {t : TypeId} (ht : HeadT t) {ops : Array Oper} {rest : List Oper} {op : Oper} {a : Act} {Q : Exit → Act → World → Prop} {w : World} {Z : Array Value} {u : TypeId} {h : Head} (hgd : op.guard = none) (x y : Operand) (ho : op.op = .store t x y)
    (hx : a.eval x = .pointer (some ⟨w.heap.size, 0, none⟩)) (hy : a.eval y = headV h) (hZ : Z.size = 4)
    (hn : ∀ W2, HeadAt W2 w.heap.size h → Below w.heap.size w W2 → W2.heap.size = w.heap.size + 1 → wpList Try.prog ops Q rest (a.put op.dst undef) W2) :
    wpList Try.prog ops Q (op :: rest) a (w.alloc (.cells Z u)) := by
  have hth : (w.alloc (.cells Z u)).there w.heap.size 0 4 := there_new w Z u _ (by omega)
  refine wpList_store_mid hgd t x y ho w.heap.size 0 (headVals h).toArray hx hy hth ht.info (all_oneCell_toArray (headVals_one h)) (hn _ ?_ ?_ ?_)
  · exact ⟨World.rangeAt_setCells_same _ _ _ _ hth, World.there_setCells hth _ _ _⟩
  · exact below_setCells _ (Nat.le_refl _) _ _ _ ((Below.refl _ _).alloc (Nat.le_refl _) _)
  · rw [heap_setCells]; simp
/-- a head that is handed back -/
theorem results_head {t : TypeId} (ht : HeadT t) (fn : Func) (s : Nat) (hf : fn.results = #[.cell s t]) {w : World} {b : Nat} {h : Head} (tmps : Array Value) (k : HeadAt w b h) (hs : tmps.getD s undef = .pointer (some ⟨b, 0, none⟩)) :
    (results fn tmps).run Try.prog w = .ok (headV h) w := by
  have hl := k.loads ht
  unfold results
  rw [hf]
  simp only [Array.mapM_eq_mapM_toList, List.mapM_cons, List.mapM_nil, hs, asAddr, Sem.run_bind, Sem.run_pure, Result.andThen_ok, hl, Sem.run_map]
  rfl
theorem results_head2 {t : TypeId} (ht : HeadT t) (fn : Func) (s r : Nat) (hf : fn.results = #[.cell s t, .tmp r]) {w : World} {b : Nat} {h : Head} {v : Value} (tmps : Array Value) (k : HeadAt w b h) (hs : tmps.getD s undef = .pointer (some ⟨b, 0, none⟩)) (hr : tmps.getD r undef = v) :
    (results fn tmps).run Try.prog w = .ok (.tuple #[headV h, v]) w := by
  have hl := k.loads ht
  unfold results
  rw [hf]
  simp only [Array.mapM_eq_mapM_toList, List.mapM_cons, List.mapM_nil, hs, hr, asAddr, Sem.run_bind, Sem.run_pure, Result.andThen_ok, hl, Sem.run_map]
  rfl

/-! ### in a region that draws its order -/
section
variable {ops : Array Oper} {σ : Type} {S : σ → World → Prop}
theorem ord_page {o : Oper} {a : Act} {b : Nat} {p : List UInt8} (hw : Region.wanted o (yielded ops a.tmps) = true) (x : Operand) (ho : o.op = .load 31 x) (hx : a.eval x = .pointer (some ⟨b, 0, none⟩)) (hS : ∀ s w, S s w → PageAt w b p) :
    OrdAt Try.prog ops S o (pageV p) a :=
  ord_value hw fun s w hs => by
    unfold execOp
    have := (hS s w hs).loads
    simp only [ho, hx, Instr.loadAt, Instr.sureAddr, Sem.run_bind, Sem.run_pure, Result.andThen_ok, this]
theorem ord_head {t : TypeId} (ht : HeadT t) {o : Oper} {a : Act} {b : Nat} {h : Head} (hw : Region.wanted o (yielded ops a.tmps) = true) (x : Operand) (ho : o.op = .load t x) (hx : a.eval x = .pointer (some ⟨b, 0, none⟩)) (hS : ∀ s w, S s w → HeadAt w b h) :
    OrdAt Try.prog ops S o (headV h) a :=
  ord_value hw fun s w hs => by
    unfold execOp
    have := (hS s w hs).loads ht
    simp only [ho, hx, Instr.loadAt, Instr.sureAddr, Sem.run_bind, Sem.run_pure, Result.andThen_ok, this]
theorem gives_store_head {t : TypeId} (ht : HeadT t) {o : Oper} {a : Act} {w : World} {b : Nat} {g h : Head} {R : Value → World → Prop} (k : HeadAt w b g) (x y : Operand) (ho : o.op = .store t x y) (hx : a.eval x = .pointer (some ⟨b, 0, none⟩)) (hy : a.eval y = headV h)
    (hR : R undef (w.setCells b 0 (headVals h))) : Gives Try.prog (execOp a.eval o) w R := by
  have hs := run_storeVar_mid (P := Try.prog) w b 0 t (headVals h).toArray k.free ht.info (all_oneCell_toArray (headVals_one h))
  rw [headV_def] at hs
  have hrun : (execOp a.eval o).run Try.prog w = .ok .skip (w.setCells b 0 (headVals h)) ∨ (execOp a.eval o).run Try.prog w = .ok (.value undef) (w.setCells b 0 (headVals h)) := by
    unfold execOp
    simp only [ho, hx, hy, Instr.storeAt, Instr.sureAddr, Sem.run_bind, Sem.run_pure, Result.andThen_ok, hs]
    simp
  unfold Gives
  rcases hrun with h | h <;> (rw [h]; exact hR)
end
end Go.Proofs.Ytlamllnflbdcjaa
