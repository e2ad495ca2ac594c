/-
  A run's end: what is recovered is told.
-/
import Derived.Test.YthngbakbiocadaaMu
import Derived.Defers
import Derived.Recover

namespace Go.Proofs.Ythngbakbiocadaa
set_option maxRecDepth 100000
open Go.ChangeShapes Go.WideShapes Go.ChangeAt Go.RowKit Go.Maps
open V
theorem ops_recover {P : Program} {Q : Exit → Act → List Frame → World → Prop} {a : Act} {cs : List Frame} {w : World} {d : Tmp} {ty : TypeId} {ps : String} (hw : yielded #[{ dst := some d, op := .call { callee := .builtin .recover, args := #[], argTypes := #[] }, type := ty, pos := ps, after := #[], guard := none }] a.tmps = yielded #[{ dst := some d, op := .call { callee := .builtin .recover, args := #[], argTypes := #[] }, type := ty, pos := ps, after := #[], guard := none }] a.tmps)
    (h : match recoverD cs with
      | some (v, cs') => Q .normal (a.put (some d) v) cs' w
      | none => Q .normal (a.put (some d) .nilIface) cs w) :
    wpOpsS P #[{ dst := some d, op := .call { callee := .builtin .recover, args := #[], argTypes := #[] }, type := ty, pos := ps, after := #[], guard := none }] Q (List.range 1) a cs w := by
  have : List.range 1 = [0] := rfl
  rw [this]
  simp only [wpOpsS, List.getElem?_toArray, List.getElem?_cons_zero]
  simp [go_sem, Region.wanted]
  cases hr : recoverD cs with
  | none => rw [hr] at h; exact h
  | some x => rw [hr] at h; exact h
theorem run_store_one {t : TypeId} (ht : t = 3 ∨ t = 22) {ρ : Operand → Value} {op : Oper} {w : World} {b o : Nat} {u v : Value} (x y : Operand) (ho : op.op = .store t x y) (hx : ρ x = .pointer (some ⟨b, o, none⟩)) (hy : ρ y = v) (hv : (∃ n, v = .int .i64 n) ∨ ∃ A n c, v = .slice A n c)
    (hc : w.cell? ⟨b, o, none⟩ = some u) (hf : w.frozen? ⟨b, o, none⟩ = false) : (execOp ρ op).run Try.prog w = .ok .skip (w.setCell ⟨b, o, none⟩ v) := by
  unfold execOp
  simp only [ho, hx, hy]
  rcases ht with rfl | rfl <;> rcases hv with ⟨n, rfl⟩ | ⟨A, n, c, rfl⟩ <;> go_simp
def endL (hw wy vd st : Int) (sl : Value) : List Value := [.int .i64 hw, .int .i64 wy, .int .i64 vd, .int .i64 st, sl]
/-- on the way to the outcome -/
structure EnS (s : V.St) (n : Nat) (W : World) (C2 : Nat) (hw wy vd : Int) (k : Nat × Option Addr × Nat × Nat) (w' : World) : Prop where
  but : But (fun x => x = C2) W w'
  row : RowAt w' C2 (endL hw wy vd (if 2 ≤ k.1 then (s.steps : Int) else 0) (if 3 ≤ k.1 then .slice k.2.1 k.2.2.1 k.2.2.2 else .slice none 0 0))
  out : 1 ≤ k.1 → NumsAt w' k.2.1 k.2.2.1 (s.ctx.drop n) ∧ ∀ b off, k.2.1 = some ⟨b, off, none⟩ → W.heap.size ≤ b ∧ b < w'.heap.size
section
variable {s : V.St} {n : Nat} {W w' : World} {C2 : Nat} {hw wy vd : Int} {O : Option Addr} {k c : Nat}
theorem en_clone {O0 : Option Addr} {k0 c0 : Nat} {A : Option Addr} {m d : Nat} {a : Act} {op : Oper} (h : EnS s n W C2 hw wy vd (0, O0, k0, c0) w') (hC2 : C2 < W.heap.size) (hop : (execOp a.eval op).run Try.prog w' = .ok (.enter 42 #[.slice A m d]) w') (hcl : Calls Try.prog 42 #[.slice A m d] w' fun e w'' => ∃ A d, e = .returned (.slice A m d) ∧ NumsAt w'' A m (s.ctx.drop n) ∧ Below w'.heap.size w' w'' ∧ ∀ b off, A = some ⟨b, off, none⟩ → w'.heap.size ≤ b ∧ b < w''.heap.size) :
    Gives Try.prog (execOp a.eval op) w' fun u w'' => ∃ s', (∃ O k c, u = .slice O k c ∧ s' = (1, O, k, c)) ∧ EnS s n W C2 hw wy vd s' w'' :=
  gives_call hop (hcl.mono fun e w'' ⟨A, d, he, hn, hb, hf⟩ => ⟨_, he, _, ⟨A, m, d, rfl, rfl⟩, h.but.trans (But.of_below (S := fun _ => False) hb) (fun x hx => hx.elim), RowAt.step (v := .int .i64 hw) (vs := [.int .i64 wy, .int .i64 vd, .int .i64 0, .slice none 0 0]) h.row hb, fun _ => ⟨hn, fun b off e => ⟨Nat.le_trans h.but.size (hf b off e).1, (hf b off e).2⟩⟩⟩)
theorem NumsAt.keep {A : Option Addr} {m : Nat} {ks : List Int} {w'' : World} (h : NumsAt w' A m ks) (hb : But (fun x => x = C2) w' w'') (hA : ∀ b off, A = some ⟨b, off, none⟩ → b ≠ C2) : NumsAt w'' A m ks := by
  refine ⟨h.len, ⟨fun h0 => ?_⟩⟩
  obtain ⟨b, off, e, hlt, hc⟩ := h.rows.cells h0
  refine ⟨b, off, e, Nat.lt_of_lt_of_le hlt hb.size, fun i r hir j u hu => ?_⟩
  have := hc i r hir j u hu
  rw [← this]
  exact World.cell?_of_block (a := ⟨b, off + i * 1 + j, none⟩) (hb.block b hlt (hA b off e))
theorem en_steps {a : Act} {op : Oper} (h : EnS s n W C2 hw wy vd (1, O, k, c) w') (hC2 : C2 < W.heap.size) (x y : Operand) (ho : op.op = .store 3 x y) (hx : a.eval x = .pointer (some ⟨C2, 3, none⟩)) (hy : a.eval y = .int .i64 (s.steps : Int)) :
    Gives Try.prog (execOp a.eval op) w' fun u w'' => ∃ s', (u = undef ∧ s' = (2, O, k, c)) ∧ EnS s n W C2 hw wy vd s' w'' := by
  have hb := But.setCell w' C2 3 (.int .i64 (s.steps : Int))
  obtain ⟨hn, hf⟩ := h.out (Nat.le_refl _)
  refine gives_skip (run_store_one (Or.inl rfl) x y ho hx hy (Or.inl ⟨_, rfl⟩) (h.row.cell 3 _ rfl) (h.row.frozen 3 (show 3 < 5 by decide))) ⟨_, ⟨rfl, rfl⟩, h.but.trans hb (fun x e => Or.inl e), h.row.setOne 3 _ (show 3 < 5 by decide), fun _ => ⟨hn.keep hb (fun b off e => by have := (hf b off e).1; omega), fun b off e => ⟨(hf b off e).1, Nat.lt_of_lt_of_le (hf b off e).2 hb.size⟩⟩⟩
theorem en_out {a : Act} {op : Oper} (h : EnS s n W C2 hw wy vd (2, O, k, c) w') (hC2 : C2 < W.heap.size) (x y : Operand) (ho : op.op = .store 22 x y) (hx : a.eval x = .pointer (some ⟨C2, 4, none⟩)) (hy : a.eval y = .slice O k c) :
    Gives Try.prog (execOp a.eval op) w' fun u w'' => ∃ s', (u = undef ∧ s' = (3, O, k, c)) ∧ EnS s n W C2 hw wy vd s' w'' := by
  have hb := But.setCell w' C2 4 (.slice O k c)
  obtain ⟨hn, hf⟩ := h.out (show 1 ≤ 2 by decide)
  refine gives_skip (run_store_one (Or.inr rfl) x y ho hx hy (Or.inr ⟨_, _, _, rfl⟩) (h.row.cell 4 _ rfl) (h.row.frozen 4 (show 4 < 5 by decide))) ⟨_, ⟨rfl, rfl⟩, h.but.trans hb (fun x e => Or.inl e), h.row.setOne 4 _ (show 4 < 5 by decide), fun _ => ⟨hn.keep hb (fun b off e => by have := (hf b off e).1; omega), fun b off e => ⟨(hf b off e).1, Nat.lt_of_lt_of_le (hf b off e).2 hb.size⟩⟩⟩
end
section
variable {E : Ev} {S : Nat → Prop} {s t : V.St} {W : World}
theorem RunAt.but {W' : World} {b : Nat} (h : RunAt E S s W) (hb : But (fun k => k = b) W W') (hR : b ≠ E.R) (hF : b ≠ E.F) (hS : ¬ S b) (hl : E.w0.heap.size ≤ b) : RunAt E S s W' :=
  ⟨h.row.of_block (hb.block _ h.Rlt (Ne.symm hR)), h.fld.of_block (hb.block _ h.Flt (Ne.symm hF)), h.st.keep hb (fun k e hs => hS (e ▸ hs)), h.low.trans (hb.below h.low.size (fun x e => by rw [e]; exact hl)), Nat.le_trans h.hb hb.size, Nat.lt_of_lt_of_le h.Rlt hb.size, Nat.lt_of_lt_of_le h.Flt hb.size, h.nR, h.nF, h.wf⟩
/-- what the deferred function leaves -/
def EndR (s : V.St) (n : Nat) (W : World) (C2 : Nat) (hw wy vd : Int) (w' : World) : Prop :=
  ∃ O k c, RowAt w' C2 (endL hw wy vd (s.steps : Int) (.slice O k c)) ∧ NumsAt w' O k (s.ctx.drop n) ∧ (∀ b off, O = some ⟨b, off, none⟩ → W.heap.size ≤ b ∧ b < w'.heap.size) ∧ But (fun x => x = C2) W w'
theorem outFields (h : RunAt E S s W) (hq : E.n ≤ E.q) : ∀ j u, (intV (s.ctx.drop E.n))[j]? = some u → W.cell? ⟨E.F, E.n + j, none⟩ = some u := fun j u hu => by
  refine h.fld.cell (E.n + j) u ?_
  unfold intV at hu ⊢
  rw [List.map_drop, List.getElem?_drop] at hu
  exact hu
set_option maxHeartbeats 8000000 in
theorem end_why_eq (hE : EvOk E) (hcn : E.c = E.n) (h : RunAt E S s W) (y : Nat) (C1 C2 : Nat) (h1 : RowAt W C1 [.pointer (some ⟨E.R, 0, none⟩)]) (h2 : RowAt W C2 zeroO) (hne : C1 ≠ C2) (hO : ¬ Own E S C2) (hl : E.w0.heap.size ≤ C2) :
    CallsD Try.prog 41 #[.pointer (some ⟨C2, 0, none⟩), .pointer (some ⟨C1, 0, none⟩)] (.panicking [{ v := .iface 98 (.int .i64 (y : Int)), recovered := false }]) W fun e u' w' => e = .returned (.tuple #[]) ∧ u' = .panicking [{ v := .iface 98 (.int .i64 (y : Int)), recovered := true }] ∧ EndR s E.n W C2 (2) ((y : Int)) (0) w' := by
  have H := Lib.hid h
  have HC := Lib.hid h2.lt
  have f0 := h2.frozen 0 (show 0 < 5 by decide)
  have f1 := h2.frozen 1 (show 1 < 5 by decide)
  have f2 := h2.frozen 2 (show 2 < 5 by decide)
  have f3 := h2.frozen 3 (show 3 < 5 by decide)
  have f4 := h2.frozen 4 (show 4 < 5 by decide)
  have k0 := h2.cell 0 _ rfl
  have k1 := h2.cell 1 _ rfl
  have k2 := h2.cell 2 _ rfl
  have k3 := h2.cell 3 _ rfl
  have k4 := h2.cell 4 _ rfl
  have ha : ∀ W : World, (Instr.typeAssert (.iface 98 (.int .i64 (y : Int))) 20 98 true).run Try.prog W = .ok (.tuple #[.int .i64 (y : Int), .bool true]) W := fun _ => by kernel_rfl
  have hb : ∀ W : World, (Instr.typeAssert (.iface 98 (.int .i64 (y : Int))) 20 97 true).run Try.prog W = .ok (.tuple #[.int .i64 0, .bool false]) W := fun _ => by kernel_rfl
  refine callsD_of_wpS Try.func41 rfl fun c₀ cs hu => ?_
  simp only [Try.ntmps41, List.size_toArray, List.length_cons, List.length_nil, Nat.reduceAdd, Nat.reduceSub, Array.replicate_succ, Array.replicate_zero, List.push_toArray, List.append_toArray, List.nil_append, List.cons_append]
  have hre : recoverD (c₀ :: cs) = some (.iface 98 (.int .i64 (y : Int)), { c₀ with mode := .panicking [{ v := .iface 98 (.int .i64 (y : Int)), recovered := true }] } :: cs) := by simp [recoverD, hu]
  have hP : RowAt (W.setCells C2 0 (endL (2) ((y : Int)) (0) 0 (.slice none 0 0))) C2 (endL (2) ((y : Int)) (0) 0 (.slice none 0 0)) ∧ But (fun x => x = C2) W (W.setCells C2 0 (endL (2) ((y : Int)) (0) 0 (.slice none 0 0))) := ⟨h2.put _ rfl, But.setCells _ _ _ _⟩
  have R5 : Hid (RowAt (((((W.setCell ⟨C2, 0, none⟩ (.int .i64 (2))).setCell ⟨C2, 1, none⟩ (.int .i64 ((y : Int)))).setCell ⟨C2, 2, none⟩ (.int .i64 (0))).setCell ⟨C2, 3, none⟩ (.int .i64 0)).setCell ⟨C2, 4, none⟩ (.slice none 0 0)) C2 (endL (2) ((y : Int)) (0) 0 (.slice none 0 0)) ∧ But (fun x => x = C2) W (((((W.setCell ⟨C2, 0, none⟩ (.int .i64 (2))).setCell ⟨C2, 1, none⟩ (.int .i64 ((y : Int)))).setCell ⟨C2, 2, none⟩ (.int .i64 (0))).setCell ⟨C2, 3, none⟩ (.int .i64 0)).setCell ⟨C2, 4, none⟩ (.slice none 0 0))) := Lib.hid hP
  have hC1 : ∀ w', But (fun x => x = C2) W w' → w'.cell? ⟨C1, 0, none⟩ = some (.pointer (some ⟨E.R, 0, none⟩)) := fun w' hb => (h1.but hb (fun e => hne e)).cell 0 _ rfl
  have hRA : ∀ w', But (fun x => x = C2) W w' → RunAt E S s w' := fun w' hb => h.but hb (fun e => hO (Or.inr (Or.inl e))) (fun e => hO (Or.inr (Or.inr e))) (fun hs => hO (Or.inl hs)) hl
  have HC1 := Lib.hid hC1
  have HRA := Lib.hid hRA
  have hnq := hE.q
  have hqc := hE.cq
  have hq1 := hE.q2
  have hctx := h.wf.ctx
  have hlen : (s.ctx.drop E.n).length = E.q - E.n := by rw [List.length_drop, hctx]
  have HCL : Hid (∀ w', But (fun x => x = C2) W w' → Calls Try.prog 42 #[.slice (some ⟨E.F, 0, none⟩) (E.q - E.n) (E.c - E.n)] w' fun e w'' => ∃ A d, e = .returned (.slice A (E.q - E.n) d) ∧ NumsAt w'' A (E.q - E.n) (s.ctx.drop E.n) ∧ Below w'.heap.size w' w'' ∧ ∀ b off, A = some ⟨b, off, none⟩ → w'.heap.size ≤ b ∧ b < w''.heap.size) := Lib.hid (fun w' hb => clone_ints E.F 0 (E.q - E.n) (E.c - E.n) _ w' hlen (hRA w' hb).Flt (fun j u hu => by have := (List.getElem?_eq_some_iff.1 hu).1; unfold intV at this; rw [List.length_map, hlen] at this; omega) (by omega))
  clear hP hC1 hRA hlen hctx hq1
  apply wpS_seq
  apply wpS_seq
  apply wpS_region
  refine ops_recover rfl ?_
  rw [hre]
  simp only [Exit.thenS]
  apply wpS_of_wp
  go_wp2
  clear f0 f1 f2 f3 f4 k0 k1 k2 k3 k4 ha hb
  generalize World.setCell _ _ _ = W5 at R5 ⊢
  simp only [Exit.thenS]
  apply wpS_of_wp
  refine wp_region_lin (EnS s E.n W C2 (2) ((y : Int)) (0)) (fun i => i == 13 || i == 15 || i == 17) (fun i => [.pointer (some ⟨E.R, 0, none⟩), .pointer (some ⟨E.R, 0, none⟩), .pointer (some ⟨E.R, 54, none⟩), .int .i64 (s.steps : Int), .pointer (some ⟨E.R, 0, none⟩), .pointer (some ⟨E.R, 0, none⟩), .pointer (some ⟨E.R, 4, none⟩), .slice (some ⟨E.F, 0, none⟩) E.q E.c, .pointer (some ⟨E.R, 0, none⟩), .pointer (some ⟨E.R, 0, none⟩), .pointer (some ⟨E.R, 3, none⟩), .int .i64 (E.n : Int), .slice (some ⟨E.F, 0, none⟩) (E.q - E.n) (E.c - E.n), undef, .pointer (some ⟨C2, 3, none⟩), undef, .pointer (some ⟨C2, 4, none⟩), undef].getD i undef) ((0, none, 0, 0)) (by kernel_rfl) (by kernel_rfl) (⟨R5.out.2.trans (But.drew (fun _ => False) _) (fun _ hf => hf.elim), R5.out.1.drew, fun h0 => absurd h0 (by decide)⟩) ?_
  refine lin_step (i := 0) (d := some 17) (v := .pointer (some ⟨E.R, 0, none⟩)) rfl rfl (by kernel_rfl) (by kernel_rfl) rfl rfl (ord_value (by kernel_rfl) ?_) ?_
  · (intro s' w' hS; (obtain ⟨c1, c8, c4, c3⟩ := (⟨HC1.out _ hS.but, (HRA.out _ hS.but).cSteps, (HRA.out _ hS.but).head 4 _ rfl, (HRA.out _ hS.but).head 3 _ rfl⟩ : _ ∧ _ ∧ _ ∧ _); go_simp))
  (try simp only [Act.put, List.setIfInBounds_toArray, List.set_cons_zero, List.set_cons_succ])
  refine lin_step (i := 1) (d := some 18) (v := .pointer (some ⟨E.R, 0, none⟩)) rfl rfl (by kernel_rfl) (by kernel_rfl) rfl rfl (ord_value (by kernel_rfl) ?_) ?_
  · (intro s' w' hS; go_simp)
  (try simp only [Act.put, List.setIfInBounds_toArray, List.set_cons_zero, List.set_cons_succ])
  refine lin_step (i := 2) (d := some 19) (v := .pointer (some ⟨E.R, 54, none⟩)) rfl rfl (by kernel_rfl) (by kernel_rfl) rfl rfl (ord_value (by kernel_rfl) ?_) ?_
  · (intro s' w' hS; go_simp)
  (try simp only [Act.put, List.setIfInBounds_toArray, List.set_cons_zero, List.set_cons_succ])
  refine lin_step (i := 3) (d := some 20) (v := .int .i64 (s.steps : Int)) rfl rfl (by kernel_rfl) (by kernel_rfl) rfl rfl (ord_value (by kernel_rfl) ?_) ?_
  · (intro s' w' hS; (obtain ⟨c1, c8, c4, c3⟩ := (⟨HC1.out _ hS.but, (HRA.out _ hS.but).cSteps, (HRA.out _ hS.but).head 4 _ rfl, (HRA.out _ hS.but).head 3 _ rfl⟩ : _ ∧ _ ∧ _ ∧ _); go_simp))
  (try simp only [Act.put, List.setIfInBounds_toArray, List.set_cons_zero, List.set_cons_succ])
  refine lin_step (i := 4) (d := some 21) (v := .pointer (some ⟨E.R, 0, none⟩)) rfl rfl (by kernel_rfl) (by kernel_rfl) rfl rfl (ord_value (by kernel_rfl) ?_) ?_
  · (intro s' w' hS; (obtain ⟨c1, c8, c4, c3⟩ := (⟨HC1.out _ hS.but, (HRA.out _ hS.but).cSteps, (HRA.out _ hS.but).head 4 _ rfl, (HRA.out _ hS.but).head 3 _ rfl⟩ : _ ∧ _ ∧ _ ∧ _); go_simp))
  (try simp only [Act.put, List.setIfInBounds_toArray, List.set_cons_zero, List.set_cons_succ])
  refine lin_step (i := 5) (d := some 22) (v := .pointer (some ⟨E.R, 0, none⟩)) rfl rfl (by kernel_rfl) (by kernel_rfl) rfl rfl (ord_value (by kernel_rfl) ?_) ?_
  · (intro s' w' hS; go_simp)
  (try simp only [Act.put, List.setIfInBounds_toArray, List.set_cons_zero, List.set_cons_succ])
  refine lin_step (i := 6) (d := some 23) (v := .pointer (some ⟨E.R, 4, none⟩)) rfl rfl (by kernel_rfl) (by kernel_rfl) rfl rfl (ord_value (by kernel_rfl) ?_) ?_
  · (intro s' w' hS; go_simp)
  (try simp only [Act.put, List.setIfInBounds_toArray, List.set_cons_zero, List.set_cons_succ])
  refine lin_step (i := 7) (d := some 24) (v := .slice (some ⟨E.F, 0, none⟩) E.q E.c) rfl rfl (by kernel_rfl) (by kernel_rfl) rfl rfl (ord_value (by kernel_rfl) ?_) ?_
  · (intro s' w' hS; (obtain ⟨c1, c8, c4, c3⟩ := (⟨HC1.out _ hS.but, (HRA.out _ hS.but).cSteps, (HRA.out _ hS.but).head 4 _ rfl, (HRA.out _ hS.but).head 3 _ rfl⟩ : _ ∧ _ ∧ _ ∧ _); go_simp))
  (try simp only [Act.put, List.setIfInBounds_toArray, List.set_cons_zero, List.set_cons_succ])
  refine lin_step (i := 8) (d := some 25) (v := .pointer (some ⟨E.R, 0, none⟩)) rfl rfl (by kernel_rfl) (by kernel_rfl) rfl rfl (ord_value (by kernel_rfl) ?_) ?_
  · (intro s' w' hS; (obtain ⟨c1, c8, c4, c3⟩ := (⟨HC1.out _ hS.but, (HRA.out _ hS.but).cSteps, (HRA.out _ hS.but).head 4 _ rfl, (HRA.out _ hS.but).head 3 _ rfl⟩ : _ ∧ _ ∧ _ ∧ _); go_simp))
  (try simp only [Act.put, List.setIfInBounds_toArray, List.set_cons_zero, List.set_cons_succ])
  refine lin_step (i := 9) (d := some 26) (v := .pointer (some ⟨E.R, 0, none⟩)) rfl rfl (by kernel_rfl) (by kernel_rfl) rfl rfl (ord_value (by kernel_rfl) ?_) ?_
  · (intro s' w' hS; go_simp)
  (try simp only [Act.put, List.setIfInBounds_toArray, List.set_cons_zero, List.set_cons_succ])
  refine lin_step (i := 10) (d := some 27) (v := .pointer (some ⟨E.R, 3, none⟩)) rfl rfl (by kernel_rfl) (by kernel_rfl) rfl rfl (ord_value (by kernel_rfl) ?_) ?_
  · (intro s' w' hS; go_simp)
  (try simp only [Act.put, List.setIfInBounds_toArray, List.set_cons_zero, List.set_cons_succ])
  refine lin_step (i := 11) (d := some 28) (v := .int .i64 (E.n : Int)) rfl rfl (by kernel_rfl) (by kernel_rfl) rfl rfl (ord_value (by kernel_rfl) ?_) ?_
  · (intro s' w' hS; (obtain ⟨c1, c8, c4, c3⟩ := (⟨HC1.out _ hS.but, (HRA.out _ hS.but).cSteps, (HRA.out _ hS.but).head 4 _ rfl, (HRA.out _ hS.but).head 3 _ rfl⟩ : _ ∧ _ ∧ _ ∧ _); go_simp))
  (try simp only [Act.put, List.setIfInBounds_toArray, List.set_cons_zero, List.set_cons_succ])
  refine lin_step (i := 12) (d := some 29) (v := .slice (some ⟨E.F, 0, none⟩) (E.q - E.n) (E.c - E.n)) rfl rfl (by kernel_rfl) (by kernel_rfl) rfl rfl (ord_value (by kernel_rfl) ?_) ?_
  · (intro s' w' hS; go_simp)
  (try simp only [Act.put, List.setIfInBounds_toArray, List.set_cons_zero, List.set_cons_succ])
  refine lin_turnD (i := 13) (d := some 30) [15, 17] (fun u s' => ∃ O k c, u = .slice O k c ∧ s' = (1, O, k, c)) rfl rfl (by kernel_rfl) (by kernel_rfl) rfl (by kernel_rfl) (⟨_, _, none, 0, 0, rfl, rfl⟩) (by kernel_rfl) (fun w' hS => en_clone hS HC.out (by go_simp <;> rfl) (HCL.out _ hS.but)) ?_
  rintro _ _ ⟨O, k, c, rfl, rfl⟩
  (try simp only [Act.put, List.setIfInBounds_toArray, List.set_cons_zero, List.set_cons_succ])
  refine lin_step (i := 14) (d := some 31) (v := .pointer (some ⟨C2, 3, none⟩)) rfl rfl (by kernel_rfl) (by kernel_rfl) rfl rfl (ord_value (by kernel_rfl) ?_) ?_
  · (intro s' w' hS; go_simp)
  (try simp only [Act.put, List.setIfInBounds_toArray, List.set_cons_zero, List.set_cons_succ])
  refine lin_turnD (i := 15) (d := none) [17] (fun u s' => u = undef ∧ s' = (2, O, k, c)) rfl rfl (by kernel_rfl) (by kernel_rfl) rfl (by kernel_rfl) (⟨_, _, rfl, rfl⟩) (by kernel_rfl) (fun w' hS => en_steps hS HC.out (.tmp 31) (.tmp 20) rfl rfl rfl) ?_
  rintro _ _ ⟨rfl, rfl⟩
  (try simp only [Act.put, List.setIfInBounds_toArray, List.set_cons_zero, List.set_cons_succ])
  refine lin_step (i := 16) (d := some 32) (v := .pointer (some ⟨C2, 4, none⟩)) rfl rfl (by kernel_rfl) (by kernel_rfl) rfl rfl (ord_value (by kernel_rfl) ?_) ?_
  · (intro s' w' hS; go_simp)
  (try simp only [Act.put, List.setIfInBounds_toArray, List.set_cons_zero, List.set_cons_succ])
  refine lin_turnD (i := 17) (d := none) [] (fun u s' => u = undef ∧ s' = (3, O, k, c)) rfl rfl (by kernel_rfl) (by kernel_rfl) rfl (by kernel_rfl) (⟨_, _, rfl, rfl⟩) (by kernel_rfl) (fun w' hS => en_out hS HC.out (.tmp 32) (.tmp 30) rfl rfl rfl) ?_
  rintro _ _ ⟨rfl, rfl⟩
  (try simp only [Act.put, List.setIfInBounds_toArray, List.set_cons_zero, List.set_cons_succ])
  refine lin_done (by kernel_rfl) ?_
  intro w' hS
  refine ⟨rfl, _, rfl, _, results_none rfl _ _ _, rfl, rfl, O, k, c, hS.row, (hS.out (show 1 ≤ 3 by decide)).1, (hS.out (show 1 ≤ 3 by decide)).2, hS.but⟩
set_option maxHeartbeats 8000000 in
theorem end_ver_eq (hE : EvOk E) (hcn : E.c = E.n) (h : RunAt E S s W) (y : Int) (C1 C2 : Nat) (h1 : RowAt W C1 [.pointer (some ⟨E.R, 0, none⟩)]) (h2 : RowAt W C2 zeroO) (hne : C1 ≠ C2) (hO : ¬ Own E S C2) (hl : E.w0.heap.size ≤ C2) :
    CallsD Try.prog 41 #[.pointer (some ⟨C2, 0, none⟩), .pointer (some ⟨C1, 0, none⟩)] (.panicking [{ v := .iface 97 (.int .i64 y), recovered := false }]) W fun e u' w' => e = .returned (.tuple #[]) ∧ u' = .panicking [{ v := .iface 97 (.int .i64 y), recovered := true }] ∧ EndR s E.n W C2 (1) (0) (y) w' := by
  have H := Lib.hid h
  have HC := Lib.hid h2.lt
  have f0 := h2.frozen 0 (show 0 < 5 by decide)
  have f1 := h2.frozen 1 (show 1 < 5 by decide)
  have f2 := h2.frozen 2 (show 2 < 5 by decide)
  have f3 := h2.frozen 3 (show 3 < 5 by decide)
  have f4 := h2.frozen 4 (show 4 < 5 by decide)
  have k0 := h2.cell 0 _ rfl
  have k1 := h2.cell 1 _ rfl
  have k2 := h2.cell 2 _ rfl
  have k3 := h2.cell 3 _ rfl
  have k4 := h2.cell 4 _ rfl
  have ha : ∀ W : World, (Instr.typeAssert (.iface 97 (.int .i64 y)) 20 97 true).run Try.prog W = .ok (.tuple #[.int .i64 y, .bool true]) W := fun _ => by kernel_rfl
  have hb : ∀ W : World, (Instr.typeAssert (.iface 97 (.int .i64 y)) 20 98 true).run Try.prog W = .ok (.tuple #[.int .i64 0, .bool false]) W := fun _ => by kernel_rfl
  refine callsD_of_wpS Try.func41 rfl fun c₀ cs hu => ?_
  simp only [Try.ntmps41, List.size_toArray, List.length_cons, List.length_nil, Nat.reduceAdd, Nat.reduceSub, Array.replicate_succ, Array.replicate_zero, List.push_toArray, List.append_toArray, List.nil_append, List.cons_append]
  have hre : recoverD (c₀ :: cs) = some (.iface 97 (.int .i64 y), { c₀ with mode := .panicking [{ v := .iface 97 (.int .i64 y), recovered := true }] } :: cs) := by simp [recoverD, hu]
  have hP : RowAt (W.setCells C2 0 (endL (1) (0) (y) 0 (.slice none 0 0))) C2 (endL (1) (0) (y) 0 (.slice none 0 0)) ∧ But (fun x => x = C2) W (W.setCells C2 0 (endL (1) (0) (y) 0 (.slice none 0 0))) := ⟨h2.put _ rfl, But.setCells _ _ _ _⟩
  have R5 : Hid (RowAt (((((W.setCell ⟨C2, 0, none⟩ (.int .i64 (1))).setCell ⟨C2, 1, none⟩ (.int .i64 (0))).setCell ⟨C2, 2, none⟩ (.int .i64 (y))).setCell ⟨C2, 3, none⟩ (.int .i64 0)).setCell ⟨C2, 4, none⟩ (.slice none 0 0)) C2 (endL (1) (0) (y) 0 (.slice none 0 0)) ∧ But (fun x => x = C2) W (((((W.setCell ⟨C2, 0, none⟩ (.int .i64 (1))).setCell ⟨C2, 1, none⟩ (.int .i64 (0))).setCell ⟨C2, 2, none⟩ (.int .i64 (y))).setCell ⟨C2, 3, none⟩ (.int .i64 0)).setCell ⟨C2, 4, none⟩ (.slice none 0 0))) := Lib.hid hP
  have hC1 : ∀ w', But (fun x => x = C2) W w' → w'.cell? ⟨C1, 0, none⟩ = some (.pointer (some ⟨E.R, 0, none⟩)) := fun w' hb => (h1.but hb (fun e => hne e)).cell 0 _ rfl
  have hRA : ∀ w', But (fun x => x = C2) W w' → RunAt E S s w' := fun w' hb => h.but hb (fun e => hO (Or.inr (Or.inl e))) (fun e => hO (Or.inr (Or.inr e))) (fun hs => hO (Or.inl hs)) hl
  have HC1 := Lib.hid hC1
  have HRA := Lib.hid hRA
  have hnq := hE.q
  have hqc := hE.cq
  have hq1 := hE.q2
  have hctx := h.wf.ctx
  have hlen : (s.ctx.drop E.n).length = E.q - E.n := by rw [List.length_drop, hctx]
  have HCL : Hid (∀ w', But (fun x => x = C2) W w' → Calls Try.prog 42 #[.slice (some ⟨E.F, 0, none⟩) (E.q - E.n) (E.c - E.n)] w' fun e w'' => ∃ A d, e = .returned (.slice A (E.q - E.n) d) ∧ NumsAt w'' A (E.q - E.n) (s.ctx.drop E.n) ∧ Below w'.heap.size w' w'' ∧ ∀ b off, A = some ⟨b, off, none⟩ → w'.heap.size ≤ b ∧ b < w''.heap.size) := Lib.hid (fun w' hb => clone_ints E.F 0 (E.q - E.n) (E.c - E.n) _ w' hlen (hRA w' hb).Flt (fun j u hu => by have := (List.getElem?_eq_some_iff.1 hu).1; unfold intV at this; rw [List.length_map, hlen] at this; omega) (by omega))
  clear hP hC1 hRA hlen hctx hq1
  apply wpS_seq
  apply wpS_seq
  apply wpS_region
  refine ops_recover rfl ?_
  rw [hre]
  simp only [Exit.thenS]
  apply wpS_of_wp
  go_wp2
  clear f0 f1 f2 f3 f4 k0 k1 k2 k3 k4 ha hb
  generalize World.setCell _ _ _ = W5 at R5 ⊢
  simp only [Exit.thenS]
  apply wpS_of_wp
  refine wp_region_lin (EnS s E.n W C2 (1) (0) (y)) (fun i => i == 13 || i == 15 || i == 17) (fun i => [.pointer (some ⟨E.R, 0, none⟩), .pointer (some ⟨E.R, 0, none⟩), .pointer (some ⟨E.R, 54, none⟩), .int .i64 (s.steps : Int), .pointer (some ⟨E.R, 0, none⟩), .pointer (some ⟨E.R, 0, none⟩), .pointer (some ⟨E.R, 4, none⟩), .slice (some ⟨E.F, 0, none⟩) E.q E.c, .pointer (some ⟨E.R, 0, none⟩), .pointer (some ⟨E.R, 0, none⟩), .pointer (some ⟨E.R, 3, none⟩), .int .i64 (E.n : Int), .slice (some ⟨E.F, 0, none⟩) (E.q - E.n) (E.c - E.n), undef, .pointer (some ⟨C2, 3, none⟩), undef, .pointer (some ⟨C2, 4, none⟩), undef].getD i undef) ((0, none, 0, 0)) (by kernel_rfl) (by kernel_rfl) (⟨R5.out.2.trans (But.drew (fun _ => False) _) (fun _ hf => hf.elim), R5.out.1.drew, fun h0 => absurd h0 (by decide)⟩) ?_
  refine lin_step (i := 0) (d := some 17) (v := .pointer (some ⟨E.R, 0, none⟩)) rfl rfl (by kernel_rfl) (by kernel_rfl) rfl rfl (ord_value (by kernel_rfl) ?_) ?_
  · (intro s' w' hS; (obtain ⟨c1, c8, c4, c3⟩ := (⟨HC1.out _ hS.but, (HRA.out _ hS.but).cSteps, (HRA.out _ hS.but).head 4 _ rfl, (HRA.out _ hS.but).head 3 _ rfl⟩ : _ ∧ _ ∧ _ ∧ _); go_simp))
  (try simp only [Act.put, List.setIfInBounds_toArray, List.set_cons_zero, List.set_cons_succ])
  refine lin_step (i := 1) (d := some 18) (v := .pointer (some ⟨E.R, 0, none⟩)) rfl rfl (by kernel_rfl) (by kernel_rfl) rfl rfl (ord_value (by kernel_rfl) ?_) ?_
  · (intro s' w' hS; go_simp)
  (try simp only [Act.put, List.setIfInBounds_toArray, List.set_cons_zero, List.set_cons_succ])
  refine lin_step (i := 2) (d := some 19) (v := .pointer (some ⟨E.R, 54, none⟩)) rfl rfl (by kernel_rfl) (by kernel_rfl) rfl rfl (ord_value (by kernel_rfl) ?_) ?_
  · (intro s' w' hS; go_simp)
  (try simp only [Act.put, List.setIfInBounds_toArray, List.set_cons_zero, List.set_cons_succ])
  refine lin_step (i := 3) (d := some 20) (v := .int .i64 (s.steps : Int)) rfl rfl (by kernel_rfl) (by kernel_rfl) rfl rfl (ord_value (by kernel_rfl) ?_) ?_
  · (intro s' w' hS; (obtain ⟨c1, c8, c4, c3⟩ := (⟨HC1.out _ hS.but, (HRA.out _ hS.but).cSteps, (HRA.out _ hS.but).head 4 _ rfl, (HRA.out _ hS.but).head 3 _ rfl⟩ : _ ∧ _ ∧ _ ∧ _); go_simp))
  (try simp only [Act.put, List.setIfInBounds_toArray, List.set_cons_zero, List.set_cons_succ])
  refine lin_step (i := 4) (d := some 21) (v := .pointer (some ⟨E.R, 0, none⟩)) rfl rfl (by kernel_rfl) (by kernel_rfl) rfl rfl (ord_value (by kernel_rfl) ?_) ?_
  · (intro s' w' hS; (obtain ⟨c1, c8, c4, c3⟩ := (⟨HC1.out _ hS.but, (HRA.out _ hS.but).cSteps, (HRA.out _ hS.but).head 4 _ rfl, (HRA.out _ hS.but).head 3 _ rfl⟩ : _ ∧ _ ∧ _ ∧ _); go_simp))
  (try simp only [Act.put, List.setIfInBounds_toArray, List.set_cons_zero, List.set_cons_succ])
  refine lin_step (i := 5) (d := some 22) (v := .pointer (some ⟨E.R, 0, none⟩)) rfl rfl (by kernel_rfl) (by kernel_rfl) rfl rfl (ord_value (by kernel_rfl) ?_) ?_
  · (intro s' w' hS; go_simp)
  (try simp only [Act.put, List.setIfInBounds_toArray, List.set_cons_zero, List.set_cons_succ])
  refine lin_step (i := 6) (d := some 23) (v := .pointer (some ⟨E.R, 4, none⟩)) rfl rfl (by kernel_rfl) (by kernel_rfl) rfl rfl (ord_value (by kernel_rfl) ?_) ?_
  · (intro s' w' hS; go_simp)
  (try simp only [Act.put, List.setIfInBounds_toArray, List.set_cons_zero, List.set_cons_succ])
  refine lin_step (i := 7) (d := some 24) (v := .slice (some ⟨E.F, 0, none⟩) E.q E.c) rfl rfl (by kernel_rfl) (by kernel_rfl) rfl rfl (ord_value (by kernel_rfl) ?_) ?_
  · (intro s' w' hS; (obtain ⟨c1, c8, c4, c3⟩ := (⟨HC1.out _ hS.but, (HRA.out _ hS.but).cSteps, (HRA.out _ hS.but).head 4 _ rfl, (HRA.out _ hS.but).head 3 _ rfl⟩ : _ ∧ _ ∧ _ ∧ _); go_simp))
  (try simp only [Act.put, List.setIfInBounds_toArray, List.set_cons_zero, List.set_cons_succ])
  refine lin_step (i := 8) (d := some 25) (v := .pointer (some ⟨E.R, 0, none⟩)) rfl rfl (by kernel_rfl) (by kernel_rfl) rfl rfl (ord_value (by kernel_rfl) ?_) ?_
  · (intro s' w' hS; (obtain ⟨c1, c8, c4, c3⟩ := (⟨HC1.out _ hS.but, (HRA.out _ hS.but).cSteps, (HRA.out _ hS.but).head 4 _ rfl, (HRA.out _ hS.but).head 3 _ rfl⟩ : _ ∧ _ ∧ _ ∧ _); go_simp))
  (try simp only [Act.put, List.setIfInBounds_toArray, List.set_cons_zero, List.set_cons_succ])
  refine lin_step (i := 9) (d := some 26) (v := .pointer (some ⟨E.R, 0, none⟩)) rfl rfl (by kernel_rfl) (by kernel_rfl) rfl rfl (ord_value (by kernel_rfl) ?_) ?_
  · (intro s' w' hS; go_simp)
  (try simp only [Act.put, List.setIfInBounds_toArray, List.set_cons_zero, List.set_cons_succ])
  refine lin_step (i := 10) (d := some 27) (v := .pointer (some ⟨E.R, 3, none⟩)) rfl rfl (by kernel_rfl) (by kernel_rfl) rfl rfl (ord_value (by kernel_rfl) ?_) ?_
  · (intro s' w' hS; go_simp)
  (try simp only [Act.put, List.setIfInBounds_toArray, List.set_cons_zero, List.set_cons_succ])
  refine lin_step (i := 11) (d := some 28) (v := .int .i64 (E.n : Int)) rfl rfl (by kernel_rfl) (by kernel_rfl) rfl rfl (ord_value (by kernel_rfl) ?_) ?_
  · (intro s' w' hS; (obtain ⟨c1, c8, c4, c3⟩ := (⟨HC1.out _ hS.but, (HRA.out _ hS.but).cSteps, (HRA.out _ hS.but).head 4 _ rfl, (HRA.out _ hS.but).head 3 _ rfl⟩ : _ ∧ _ ∧ _ ∧ _); go_simp))
  (try simp only [Act.put, List.setIfInBounds_toArray, List.set_cons_zero, List.set_cons_succ])
  refine lin_step (i := 12) (d := some 29) (v := .slice (some ⟨E.F, 0, none⟩) (E.q - E.n) (E.c - E.n)) rfl rfl (by kernel_rfl) (by kernel_rfl) rfl rfl (ord_value (by kernel_rfl) ?_) ?_
  · (intro s' w' hS; go_simp)
  (try simp only [Act.put, List.setIfInBounds_toArray, List.set_cons_zero, List.set_cons_succ])
  refine lin_turnD (i := 13) (d := some 30) [15, 17] (fun u s' => ∃ O k c, u = .slice O k c ∧ s' = (1, O, k, c)) rfl rfl (by kernel_rfl) (by kernel_rfl) rfl (by kernel_rfl) (⟨_, _, none, 0, 0, rfl, rfl⟩) (by kernel_rfl) (fun w' hS => en_clone hS HC.out (by go_simp <;> rfl) (HCL.out _ hS.but)) ?_
  rintro _ _ ⟨O, k, c, rfl, rfl⟩
  (try simp only [Act.put, List.setIfInBounds_toArray, List.set_cons_zero, List.set_cons_succ])
  refine lin_step (i := 14) (d := some 31) (v := .pointer (some ⟨C2, 3, none⟩)) rfl rfl (by kernel_rfl) (by kernel_rfl) rfl rfl (ord_value (by kernel_rfl) ?_) ?_
  · (intro s' w' hS; go_simp)
  (try simp only [Act.put, List.setIfInBounds_toArray, List.set_cons_zero, List.set_cons_succ])
  refine lin_turnD (i := 15) (d := none) [17] (fun u s' => u = undef ∧ s' = (2, O, k, c)) rfl rfl (by kernel_rfl) (by kernel_rfl) rfl (by kernel_rfl) (⟨_, _, rfl, rfl⟩) (by kernel_rfl) (fun w' hS => en_steps hS HC.out (.tmp 31) (.tmp 20) rfl rfl rfl) ?_
  rintro _ _ ⟨rfl, rfl⟩
  (try simp only [Act.put, List.setIfInBounds_toArray, List.set_cons_zero, List.set_cons_succ])
  refine lin_step (i := 16) (d := some 32) (v := .pointer (some ⟨C2, 4, none⟩)) rfl rfl (by kernel_rfl) (by kernel_rfl) rfl rfl (ord_value (by kernel_rfl) ?_) ?_
  · (intro s' w' hS; go_simp)
  (try simp only [Act.put, List.setIfInBounds_toArray, List.set_cons_zero, List.set_cons_succ])
  refine lin_turnD (i := 17) (d := none) [] (fun u s' => u = undef ∧ s' = (3, O, k, c)) rfl rfl (by kernel_rfl) (by kernel_rfl) rfl (by kernel_rfl) (⟨_, _, rfl, rfl⟩) (by kernel_rfl) (fun w' hS => en_out hS HC.out (.tmp 32) (.tmp 30) rfl rfl rfl) ?_
  rintro _ _ ⟨rfl, rfl⟩
  (try simp only [Act.put, List.setIfInBounds_toArray, List.set_cons_zero, List.set_cons_succ])
  refine lin_done (by kernel_rfl) ?_
  intro w' hS
  refine ⟨rfl, _, rfl, _, results_none rfl _ _ _, rfl, rfl, O, k, c, hS.row, (hS.out (show 1 ≤ 3 by decide)).1, (hS.out (show 1 ≤ 3 by decide)).2, hS.but⟩
set_option maxHeartbeats 8000000 in
theorem end_why_ne (hE : EvOk E) (hcn : ¬ E.c = E.n) (h : RunAt E S s W) (y : Nat) (C1 C2 : Nat) (h1 : RowAt W C1 [.pointer (some ⟨E.R, 0, none⟩)]) (h2 : RowAt W C2 zeroO) (hne : C1 ≠ C2) (hO : ¬ Own E S C2) (hl : E.w0.heap.size ≤ C2) :
    CallsD Try.prog 41 #[.pointer (some ⟨C2, 0, none⟩), .pointer (some ⟨C1, 0, none⟩)] (.panicking [{ v := .iface 98 (.int .i64 (y : Int)), recovered := false }]) W fun e u' w' => e = .returned (.tuple #[]) ∧ u' = .panicking [{ v := .iface 98 (.int .i64 (y : Int)), recovered := true }] ∧ EndR s E.n W C2 (2) ((y : Int)) (0) w' := by
  have H := Lib.hid h
  have HC := Lib.hid h2.lt
  have f0 := h2.frozen 0 (show 0 < 5 by decide)
  have f1 := h2.frozen 1 (show 1 < 5 by decide)
  have f2 := h2.frozen 2 (show 2 < 5 by decide)
  have f3 := h2.frozen 3 (show 3 < 5 by decide)
  have f4 := h2.frozen 4 (show 4 < 5 by decide)
  have k0 := h2.cell 0 _ rfl
  have k1 := h2.cell 1 _ rfl
  have k2 := h2.cell 2 _ rfl
  have k3 := h2.cell 3 _ rfl
  have k4 := h2.cell 4 _ rfl
  have ha : ∀ W : World, (Instr.typeAssert (.iface 98 (.int .i64 (y : Int))) 20 98 true).run Try.prog W = .ok (.tuple #[.int .i64 (y : Int), .bool true]) W := fun _ => by kernel_rfl
  have hb : ∀ W : World, (Instr.typeAssert (.iface 98 (.int .i64 (y : Int))) 20 97 true).run Try.prog W = .ok (.tuple #[.int .i64 0, .bool false]) W := fun _ => by kernel_rfl
  refine callsD_of_wpS Try.func41 rfl fun c₀ cs hu => ?_
  simp only [Try.ntmps41, List.size_toArray, List.length_cons, List.length_nil, Nat.reduceAdd, Nat.reduceSub, Array.replicate_succ, Array.replicate_zero, List.push_toArray, List.append_toArray, List.nil_append, List.cons_append]
  have hre : recoverD (c₀ :: cs) = some (.iface 98 (.int .i64 (y : Int)), { c₀ with mode := .panicking [{ v := .iface 98 (.int .i64 (y : Int)), recovered := true }] } :: cs) := by simp [recoverD, hu]
  have hP : RowAt (W.setCells C2 0 (endL (2) ((y : Int)) (0) 0 (.slice none 0 0))) C2 (endL (2) ((y : Int)) (0) 0 (.slice none 0 0)) ∧ But (fun x => x = C2) W (W.setCells C2 0 (endL (2) ((y : Int)) (0) 0 (.slice none 0 0))) := ⟨h2.put _ rfl, But.setCells _ _ _ _⟩
  have R5 : Hid (RowAt (((((W.setCell ⟨C2, 0, none⟩ (.int .i64 (2))).setCell ⟨C2, 1, none⟩ (.int .i64 ((y : Int)))).setCell ⟨C2, 2, none⟩ (.int .i64 (0))).setCell ⟨C2, 3, none⟩ (.int .i64 0)).setCell ⟨C2, 4, none⟩ (.slice none 0 0)) C2 (endL (2) ((y : Int)) (0) 0 (.slice none 0 0)) ∧ But (fun x => x = C2) W (((((W.setCell ⟨C2, 0, none⟩ (.int .i64 (2))).setCell ⟨C2, 1, none⟩ (.int .i64 ((y : Int)))).setCell ⟨C2, 2, none⟩ (.int .i64 (0))).setCell ⟨C2, 3, none⟩ (.int .i64 0)).setCell ⟨C2, 4, none⟩ (.slice none 0 0))) := Lib.hid hP
  have hC1 : ∀ w', But (fun x => x = C2) W w' → w'.cell? ⟨C1, 0, none⟩ = some (.pointer (some ⟨E.R, 0, none⟩)) := fun w' hb => (h1.but hb (fun e => hne e)).cell 0 _ rfl
  have hRA : ∀ w', But (fun x => x = C2) W w' → RunAt E S s w' := fun w' hb => h.but hb (fun e => hO (Or.inr (Or.inl e))) (fun e => hO (Or.inr (Or.inr e))) (fun hs => hO (Or.inl hs)) hl
  have HC1 := Lib.hid hC1
  have HRA := Lib.hid hRA
  have hnq := hE.q
  have hqc := hE.cq
  have hq1 := hE.q2
  have hctx := h.wf.ctx
  have hlen : (s.ctx.drop E.n).length = E.q - E.n := by rw [List.length_drop, hctx]
  have HCL : Hid (∀ w', But (fun x => x = C2) W w' → Calls Try.prog 42 #[.slice (some ⟨E.F, E.n, none⟩) (E.q - E.n) (E.c - E.n)] w' fun e w'' => ∃ A d, e = .returned (.slice A (E.q - E.n) d) ∧ NumsAt w'' A (E.q - E.n) (s.ctx.drop E.n) ∧ Below w'.heap.size w' w'' ∧ ∀ b off, A = some ⟨b, off, none⟩ → w'.heap.size ≤ b ∧ b < w''.heap.size) := Lib.hid (fun w' hb => clone_ints E.F E.n (E.q - E.n) (E.c - E.n) _ w' hlen (hRA w' hb).Flt (fun j u hu => outFields (hRA w' hb) hnq j u hu) (by omega))
  clear hP hC1 hRA hlen hctx hq1
  apply wpS_seq
  apply wpS_seq
  apply wpS_region
  refine ops_recover rfl ?_
  rw [hre]
  simp only [Exit.thenS]
  apply wpS_of_wp
  go_wp2
  clear f0 f1 f2 f3 f4 k0 k1 k2 k3 k4 ha hb
  generalize World.setCell _ _ _ = W5 at R5 ⊢
  simp only [Exit.thenS]
  apply wpS_of_wp
  refine wp_region_lin (EnS s E.n W C2 (2) ((y : Int)) (0)) (fun i => i == 13 || i == 15 || i == 17) (fun i => [.pointer (some ⟨E.R, 0, none⟩), .pointer (some ⟨E.R, 0, none⟩), .pointer (some ⟨E.R, 54, none⟩), .int .i64 (s.steps : Int), .pointer (some ⟨E.R, 0, none⟩), .pointer (some ⟨E.R, 0, none⟩), .pointer (some ⟨E.R, 4, none⟩), .slice (some ⟨E.F, 0, none⟩) E.q E.c, .pointer (some ⟨E.R, 0, none⟩), .pointer (some ⟨E.R, 0, none⟩), .pointer (some ⟨E.R, 3, none⟩), .int .i64 (E.n : Int), .slice (some ⟨E.F, E.n, none⟩) (E.q - E.n) (E.c - E.n), undef, .pointer (some ⟨C2, 3, none⟩), undef, .pointer (some ⟨C2, 4, none⟩), undef].getD i undef) ((0, none, 0, 0)) (by kernel_rfl) (by kernel_rfl) (⟨R5.out.2.trans (But.drew (fun _ => False) _) (fun _ hf => hf.elim), R5.out.1.drew, fun h0 => absurd h0 (by decide)⟩) ?_
  refine lin_step (i := 0) (d := some 17) (v := .pointer (some ⟨E.R, 0, none⟩)) rfl rfl (by kernel_rfl) (by kernel_rfl) rfl rfl (ord_value (by kernel_rfl) ?_) ?_
  · (intro s' w' hS; (obtain ⟨c1, c8, c4, c3⟩ := (⟨HC1.out _ hS.but, (HRA.out _ hS.but).cSteps, (HRA.out _ hS.but).head 4 _ rfl, (HRA.out _ hS.but).head 3 _ rfl⟩ : _ ∧ _ ∧ _ ∧ _); go_simp))
  (try simp only [Act.put, List.setIfInBounds_toArray, List.set_cons_zero, List.set_cons_succ])
  refine lin_step (i := 1) (d := some 18) (v := .pointer (some ⟨E.R, 0, none⟩)) rfl rfl (by kernel_rfl) (by kernel_rfl) rfl rfl (ord_value (by kernel_rfl) ?_) ?_
  · (intro s' w' hS; go_simp)
  (try simp only [Act.put, List.setIfInBounds_toArray, List.set_cons_zero, List.set_cons_succ])
  refine lin_step (i := 2) (d := some 19) (v := .pointer (some ⟨E.R, 54, none⟩)) rfl rfl (by kernel_rfl) (by kernel_rfl) rfl rfl (ord_value (by kernel_rfl) ?_) ?_
  · (intro s' w' hS; go_simp)
  (try simp only [Act.put, List.setIfInBounds_toArray, List.set_cons_zero, List.set_cons_succ])
  refine lin_step (i := 3) (d := some 20) (v := .int .i64 (s.steps : Int)) rfl rfl (by kernel_rfl) (by kernel_rfl) rfl rfl (ord_value (by kernel_rfl) ?_) ?_
  · (intro s' w' hS; (obtain ⟨c1, c8, c4, c3⟩ := (⟨HC1.out _ hS.but, (HRA.out _ hS.but).cSteps, (HRA.out _ hS.but).head 4 _ rfl, (HRA.out _ hS.but).head 3 _ rfl⟩ : _ ∧ _ ∧ _ ∧ _); go_simp))
  (try simp only [Act.put, List.setIfInBounds_toArray, List.set_cons_zero, List.set_cons_succ])
  refine lin_step (i := 4) (d := some 21) (v := .pointer (some ⟨E.R, 0, none⟩)) rfl rfl (by kernel_rfl) (by kernel_rfl) rfl rfl (ord_value (by kernel_rfl) ?_) ?_
  · (intro s' w' hS; (obtain ⟨c1, c8, c4, c3⟩ := (⟨HC1.out _ hS.but, (HRA.out _ hS.but).cSteps, (HRA.out _ hS.but).head 4 _ rfl, (HRA.out _ hS.but).head 3 _ rfl⟩ : _ ∧ _ ∧ _ ∧ _); go_simp))
  (try simp only [Act.put, List.setIfInBounds_toArray, List.set_cons_zero, List.set_cons_succ])
  refine lin_step (i := 5) (d := some 22) (v := .pointer (some ⟨E.R, 0, none⟩)) rfl rfl (by kernel_rfl) (by kernel_rfl) rfl rfl (ord_value (by kernel_rfl) ?_) ?_
  · (intro s' w' hS; go_simp)
  (try simp only [Act.put, List.setIfInBounds_toArray, List.set_cons_zero, List.set_cons_succ])
  refine lin_step (i := 6) (d := some 23) (v := .pointer (some ⟨E.R, 4, none⟩)) rfl rfl (by kernel_rfl) (by kernel_rfl) rfl rfl (ord_value (by kernel_rfl) ?_) ?_
  · (intro s' w' hS; go_simp)
  (try simp only [Act.put, List.setIfInBounds_toArray, List.set_cons_zero, List.set_cons_succ])
  refine lin_step (i := 7) (d := some 24) (v := .slice (some ⟨E.F, 0, none⟩) E.q E.c) rfl rfl (by kernel_rfl) (by kernel_rfl) rfl rfl (ord_value (by kernel_rfl) ?_) ?_
  · (intro s' w' hS; (obtain ⟨c1, c8, c4, c3⟩ := (⟨HC1.out _ hS.but, (HRA.out _ hS.but).cSteps, (HRA.out _ hS.but).head 4 _ rfl, (HRA.out _ hS.but).head 3 _ rfl⟩ : _ ∧ _ ∧ _ ∧ _); go_simp))
  (try simp only [Act.put, List.setIfInBounds_toArray, List.set_cons_zero, List.set_cons_succ])
  refine lin_step (i := 8) (d := some 25) (v := .pointer (some ⟨E.R, 0, none⟩)) rfl rfl (by kernel_rfl) (by kernel_rfl) rfl rfl (ord_value (by kernel_rfl) ?_) ?_
  · (intro s' w' hS; (obtain ⟨c1, c8, c4, c3⟩ := (⟨HC1.out _ hS.but, (HRA.out _ hS.but).cSteps, (HRA.out _ hS.but).head 4 _ rfl, (HRA.out _ hS.but).head 3 _ rfl⟩ : _ ∧ _ ∧ _ ∧ _); go_simp))
  (try simp only [Act.put, List.setIfInBounds_toArray, List.set_cons_zero, List.set_cons_succ])
  refine lin_step (i := 9) (d := some 26) (v := .pointer (some ⟨E.R, 0, none⟩)) rfl rfl (by kernel_rfl) (by kernel_rfl) rfl rfl (ord_value (by kernel_rfl) ?_) ?_
  · (intro s' w' hS; go_simp)
  (try simp only [Act.put, List.setIfInBounds_toArray, List.set_cons_zero, List.set_cons_succ])
  refine lin_step (i := 10) (d := some 27) (v := .pointer (some ⟨E.R, 3, none⟩)) rfl rfl (by kernel_rfl) (by kernel_rfl) rfl rfl (ord_value (by kernel_rfl) ?_) ?_
  · (intro s' w' hS; go_simp)
  (try simp only [Act.put, List.setIfInBounds_toArray, List.set_cons_zero, List.set_cons_succ])
  refine lin_step (i := 11) (d := some 28) (v := .int .i64 (E.n : Int)) rfl rfl (by kernel_rfl) (by kernel_rfl) rfl rfl (ord_value (by kernel_rfl) ?_) ?_
  · (intro s' w' hS; (obtain ⟨c1, c8, c4, c3⟩ := (⟨HC1.out _ hS.but, (HRA.out _ hS.but).cSteps, (HRA.out _ hS.but).head 4 _ rfl, (HRA.out _ hS.but).head 3 _ rfl⟩ : _ ∧ _ ∧ _ ∧ _); go_simp))
  (try simp only [Act.put, List.setIfInBounds_toArray, List.set_cons_zero, List.set_cons_succ])
  refine lin_step (i := 12) (d := some 29) (v := .slice (some ⟨E.F, E.n, none⟩) (E.q - E.n) (E.c - E.n)) rfl rfl (by kernel_rfl) (by kernel_rfl) rfl rfl (ord_value (by kernel_rfl) ?_) ?_
  · (intro s' w' hS; go_simp)
  (try simp only [Act.put, List.setIfInBounds_toArray, List.set_cons_zero, List.set_cons_succ])
  refine lin_turnD (i := 13) (d := some 30) [15, 17] (fun u s' => ∃ O k c, u = .slice O k c ∧ s' = (1, O, k, c)) rfl rfl (by kernel_rfl) (by kernel_rfl) rfl (by kernel_rfl) (⟨_, _, none, 0, 0, rfl, rfl⟩) (by kernel_rfl) (fun w' hS => en_clone hS HC.out (by go_simp <;> rfl) (HCL.out _ hS.but)) ?_
  rintro _ _ ⟨O, k, c, rfl, rfl⟩
  (try simp only [Act.put, List.setIfInBounds_toArray, List.set_cons_zero, List.set_cons_succ])
  refine lin_step (i := 14) (d := some 31) (v := .pointer (some ⟨C2, 3, none⟩)) rfl rfl (by kernel_rfl) (by kernel_rfl) rfl rfl (ord_value (by kernel_rfl) ?_) ?_
  · (intro s' w' hS; go_simp)
  (try simp only [Act.put, List.setIfInBounds_toArray, List.set_cons_zero, List.set_cons_succ])
  refine lin_turnD (i := 15) (d := none) [17] (fun u s' => u = undef ∧ s' = (2, O, k, c)) rfl rfl (by kernel_rfl) (by kernel_rfl) rfl (by kernel_rfl) (⟨_, _, rfl, rfl⟩) (by kernel_rfl) (fun w' hS => en_steps hS HC.out (.tmp 31) (.tmp 20) rfl rfl rfl) ?_
  rintro _ _ ⟨rfl, rfl⟩
  (try simp only [Act.put, List.setIfInBounds_toArray, List.set_cons_zero, List.set_cons_succ])
  refine lin_step (i := 16) (d := some 32) (v := .pointer (some ⟨C2, 4, none⟩)) rfl rfl (by kernel_rfl) (by kernel_rfl) rfl rfl (ord_value (by kernel_rfl) ?_) ?_
  · (intro s' w' hS; go_simp)
  (try simp only [Act.put, List.setIfInBounds_toArray, List.set_cons_zero, List.set_cons_succ])
  refine lin_turnD (i := 17) (d := none) [] (fun u s' => u = undef ∧ s' = (3, O, k, c)) rfl rfl (by kernel_rfl) (by kernel_rfl) rfl (by kernel_rfl) (⟨_, _, rfl, rfl⟩) (by kernel_rfl) (fun w' hS => en_out hS HC.out (.tmp 32) (.tmp 30) rfl rfl rfl) ?_
  rintro _ _ ⟨rfl, rfl⟩
  (try simp only [Act.put, List.setIfInBounds_toArray, List.set_cons_zero, List.set_cons_succ])
  refine lin_done (by kernel_rfl) ?_
  intro w' hS
  refine ⟨rfl, _, rfl, _, results_none rfl _ _ _, rfl, rfl, O, k, c, hS.row, (hS.out (show 1 ≤ 3 by decide)).1, (hS.out (show 1 ≤ 3 by decide)).2, hS.but⟩
set_option maxHeartbeats 8000000 in
theorem end_ver_ne (hE : EvOk E) (hcn : ¬ E.c = E.n) (h : RunAt E S s W) (y : Int) (C1 C2 : Nat) (h1 : RowAt W C1 [.pointer (some ⟨E.R, 0, none⟩)]) (h2 : RowAt W C2 zeroO) (hne : C1 ≠ C2) (hO : ¬ Own E S C2) (hl : E.w0.heap.size ≤ C2) :
    CallsD Try.prog 41 #[.pointer (some ⟨C2, 0, none⟩), .pointer (some ⟨C1, 0, none⟩)] (.panicking [{ v := .iface 97 (.int .i64 y), recovered := false }]) W fun e u' w' => e = .returned (.tuple #[]) ∧ u' = .panicking [{ v := .iface 97 (.int .i64 y), recovered := true }] ∧ EndR s E.n W C2 (1) (0) (y) w' := by
  have H := Lib.hid h
  have HC := Lib.hid h2.lt
  have f0 := h2.frozen 0 (show 0 < 5 by decide)
  have f1 := h2.frozen 1 (show 1 < 5 by decide)
  have f2 := h2.frozen 2 (show 2 < 5 by decide)
  have f3 := h2.frozen 3 (show 3 < 5 by decide)
  have f4 := h2.frozen 4 (show 4 < 5 by decide)
  have k0 := h2.cell 0 _ rfl
  have k1 := h2.cell 1 _ rfl
  have k2 := h2.cell 2 _ rfl
  have k3 := h2.cell 3 _ rfl
  have k4 := h2.cell 4 _ rfl
  have ha : ∀ W : World, (Instr.typeAssert (.iface 97 (.int .i64 y)) 20 97 true).run Try.prog W = .ok (.tuple #[.int .i64 y, .bool true]) W := fun _ => by kernel_rfl
  have hb : ∀ W : World, (Instr.typeAssert (.iface 97 (.int .i64 y)) 20 98 true).run Try.prog W = .ok (.tuple #[.int .i64 0, .bool false]) W := fun _ => by kernel_rfl
  refine callsD_of_wpS Try.func41 rfl fun c₀ cs hu => ?_
  simp only [Try.ntmps41, List.size_toArray, List.length_cons, List.length_nil, Nat.reduceAdd, Nat.reduceSub, Array.replicate_succ, Array.replicate_zero, List.push_toArray, List.append_toArray, List.nil_append, List.cons_append]
  have hre : recoverD (c₀ :: cs) = some (.iface 97 (.int .i64 y), { c₀ with mode := .panicking [{ v := .iface 97 (.int .i64 y), recovered := true }] } :: cs) := by simp [recoverD, hu]
  have hP : RowAt (W.setCells C2 0 (endL (1) (0) (y) 0 (.slice none 0 0))) C2 (endL (1) (0) (y) 0 (.slice none 0 0)) ∧ But (fun x => x = C2) W (W.setCells C2 0 (endL (1) (0) (y) 0 (.slice none 0 0))) := ⟨h2.put _ rfl, But.setCells _ _ _ _⟩
  have R5 : Hid (RowAt (((((W.setCell ⟨C2, 0, none⟩ (.int .i64 (1))).setCell ⟨C2, 1, none⟩ (.int .i64 (0))).setCell ⟨C2, 2, none⟩ (.int .i64 (y))).setCell ⟨C2, 3, none⟩ (.int .i64 0)).setCell ⟨C2, 4, none⟩ (.slice none 0 0)) C2 (endL (1) (0) (y) 0 (.slice none 0 0)) ∧ But (fun x => x = C2) W (((((W.setCell ⟨C2, 0, none⟩ (.int .i64 (1))).setCell ⟨C2, 1, none⟩ (.int .i64 (0))).setCell ⟨C2, 2, none⟩ (.int .i64 (y))).setCell ⟨C2, 3, none⟩ (.int .i64 0)).setCell ⟨C2, 4, none⟩ (.slice none 0 0))) := Lib.hid hP
  have hC1 : ∀ w', But (fun x => x = C2) W w' → w'.cell? ⟨C1, 0, none⟩ = some (.pointer (some ⟨E.R, 0, none⟩)) := fun w' hb => (h1.but hb (fun e => hne e)).cell 0 _ rfl
  have hRA : ∀ w', But (fun x => x = C2) W w' → RunAt E S s w' := fun w' hb => h.but hb (fun e => hO (Or.inr (Or.inl e))) (fun e => hO (Or.inr (Or.inr e))) (fun hs => hO (Or.inl hs)) hl
  have HC1 := Lib.hid hC1
  have HRA := Lib.hid hRA
  have hnq := hE.q
  have hqc := hE.cq
  have hq1 := hE.q2
  have hctx := h.wf.ctx
  have hlen : (s.ctx.drop E.n).length = E.q - E.n := by rw [List.length_drop, hctx]
  have HCL : Hid (∀ w', But (fun x => x = C2) W w' → Calls Try.prog 42 #[.slice (some ⟨E.F, E.n, none⟩) (E.q - E.n) (E.c - E.n)] w' fun e w'' => ∃ A d, e = .returned (.slice A (E.q - E.n) d) ∧ NumsAt w'' A (E.q - E.n) (s.ctx.drop E.n) ∧ Below w'.heap.size w' w'' ∧ ∀ b off, A = some ⟨b, off, none⟩ → w'.heap.size ≤ b ∧ b < w''.heap.size) := Lib.hid (fun w' hb => clone_ints E.F E.n (E.q - E.n) (E.c - E.n) _ w' hlen (hRA w' hb).Flt (fun j u hu => outFields (hRA w' hb) hnq j u hu) (by omega))
  clear hP hC1 hRA hlen hctx hq1
  apply wpS_seq
  apply wpS_seq
  apply wpS_region
  refine ops_recover rfl ?_
  rw [hre]
  simp only [Exit.thenS]
  apply wpS_of_wp
  go_wp2
  clear f0 f1 f2 f3 f4 k0 k1 k2 k3 k4 ha hb
  generalize World.setCell _ _ _ = W5 at R5 ⊢
  simp only [Exit.thenS]
  apply wpS_of_wp
  refine wp_region_lin (EnS s E.n W C2 (1) (0) (y)) (fun i => i == 13 || i == 15 || i == 17) (fun i => [.pointer (some ⟨E.R, 0, none⟩), .pointer (some ⟨E.R, 0, none⟩), .pointer (some ⟨E.R, 54, none⟩), .int .i64 (s.steps : Int), .pointer (some ⟨E.R, 0, none⟩), .pointer (some ⟨E.R, 0, none⟩), .pointer (some ⟨E.R, 4, none⟩), .slice (some ⟨E.F, 0, none⟩) E.q E.c, .pointer (some ⟨E.R, 0, none⟩), .pointer (some ⟨E.R, 0, none⟩), .pointer (some ⟨E.R, 3, none⟩), .int .i64 (E.n : Int), .slice (some ⟨E.F, E.n, none⟩) (E.q - E.n) (E.c - E.n), undef, .pointer (some ⟨C2, 3, none⟩), undef, .pointer (some ⟨C2, 4, none⟩), undef].getD i undef) ((0, none, 0, 0)) (by kernel_rfl) (by kernel_rfl) (⟨R5.out.2.trans (But.drew (fun _ => False) _) (fun _ hf => hf.elim), R5.out.1.drew, fun h0 => absurd h0 (by decide)⟩) ?_
  refine lin_step (i := 0) (d := some 17) (v := .pointer (some ⟨E.R, 0, none⟩)) rfl rfl (by kernel_rfl) (by kernel_rfl) rfl rfl (ord_value (by kernel_rfl) ?_) ?_
  · (intro s' w' hS; (obtain ⟨c1, c8, c4, c3⟩ := (⟨HC1.out _ hS.but, (HRA.out _ hS.but).cSteps, (HRA.out _ hS.but).head 4 _ rfl, (HRA.out _ hS.but).head 3 _ rfl⟩ : _ ∧ _ ∧ _ ∧ _); go_simp))
  (try simp only [Act.put, List.setIfInBounds_toArray, List.set_cons_zero, List.set_cons_succ])
  refine lin_step (i := 1) (d := some 18) (v := .pointer (some ⟨E.R, 0, none⟩)) rfl rfl (by kernel_rfl) (by kernel_rfl) rfl rfl (ord_value (by kernel_rfl) ?_) ?_
  · (intro s' w' hS; go_simp)
  (try simp only [Act.put, List.setIfInBounds_toArray, List.set_cons_zero, List.set_cons_succ])
  refine lin_step (i := 2) (d := some 19) (v := .pointer (some ⟨E.R, 54, none⟩)) rfl rfl (by kernel_rfl) (by kernel_rfl) rfl rfl (ord_value (by kernel_rfl) ?_) ?_
  · (intro s' w' hS; go_simp)
  (try simp only [Act.put, List.setIfInBounds_toArray, List.set_cons_zero, List.set_cons_succ])
  refine lin_step (i := 3) (d := some 20) (v := .int .i64 (s.steps : Int)) rfl rfl (by kernel_rfl) (by kernel_rfl) rfl rfl (ord_value (by kernel_rfl) ?_) ?_
  · (intro s' w' hS; (obtain ⟨c1, c8, c4, c3⟩ := (⟨HC1.out _ hS.but, (HRA.out _ hS.but).cSteps, (HRA.out _ hS.but).head 4 _ rfl, (HRA.out _ hS.but).head 3 _ rfl⟩ : _ ∧ _ ∧ _ ∧ _); go_simp))
  (try simp only [Act.put, List.setIfInBounds_toArray, List.set_cons_zero, List.set_cons_succ])
  refine lin_step (i := 4) (d := some 21) (v := .pointer (some ⟨E.R, 0, none⟩)) rfl rfl (by kernel_rfl) (by kernel_rfl) rfl rfl (ord_value (by kernel_rfl) ?_) ?_
  · (intro s' w' hS; (obtain ⟨c1, c8, c4, c3⟩ := (⟨HC1.out _ hS.but, (HRA.out _ hS.but).cSteps, (HRA.out _ hS.but).head 4 _ rfl, (HRA.out _ hS.but).head 3 _ rfl⟩ : _ ∧ _ ∧ _ ∧ _); go_simp))
  (try simp only [Act.put, List.setIfInBounds_toArray, List.set_cons_zero, List.set_cons_succ])
  refine lin_step (i := 5) (d := some 22) (v := .pointer (some ⟨E.R, 0, none⟩)) rfl rfl (by kernel_rfl) (by kernel_rfl) rfl rfl (ord_value (by kernel_rfl) ?_) ?_
  · (intro s' w' hS; go_simp)
  (try simp only [Act.put, List.setIfInBounds_toArray, List.set_cons_zero, List.set_cons_succ])
  refine lin_step (i := 6) (d := some 23) (v := .pointer (some ⟨E.R, 4, none⟩)) rfl rfl (by kernel_rfl) (by kernel_rfl) rfl rfl (ord_value (by kernel_rfl) ?_) ?_
  · (intro s' w' hS; go_simp)
  (try simp only [Act.put, List.setIfInBounds_toArray, List.set_cons_zero, List.set_cons_succ])
  refine lin_step (i := 7) (d := some 24) (v := .slice (some ⟨E.F, 0, none⟩) E.q E.c) rfl rfl (by kernel_rfl) (by kernel_rfl) rfl rfl (ord_value (by kernel_rfl) ?_) ?_
  · (intro s' w' hS; (obtain ⟨c1, c8, c4, c3⟩ := (⟨HC1.out _ hS.but, (HRA.out _ hS.but).cSteps, (HRA.out _ hS.but).head 4 _ rfl, (HRA.out _ hS.but).head 3 _ rfl⟩ : _ ∧ _ ∧ _ ∧ _); go_simp))
  (try simp only [Act.put, List.setIfInBounds_toArray, List.set_cons_zero, List.set_cons_succ])
  refine lin_step (i := 8) (d := some 25) (v := .pointer (some ⟨E.R, 0, none⟩)) rfl rfl (by kernel_rfl) (by kernel_rfl) rfl rfl (ord_value (by kernel_rfl) ?_) ?_
  · (intro s' w' hS; (obtain ⟨c1, c8, c4, c3⟩ := (⟨HC1.out _ hS.but, (HRA.out _ hS.but).cSteps, (HRA.out _ hS.but).head 4 _ rfl, (HRA.out _ hS.but).head 3 _ rfl⟩ : _ ∧ _ ∧ _ ∧ _); go_simp))
  (try simp only [Act.put, List.setIfInBounds_toArray, List.set_cons_zero, List.set_cons_succ])
  refine lin_step (i := 9) (d := some 26) (v := .pointer (some ⟨E.R, 0, none⟩)) rfl rfl (by kernel_rfl) (by kernel_rfl) rfl rfl (ord_value (by kernel_rfl) ?_) ?_
  · (intro s' w' hS; go_simp)
  (try simp only [Act.put, List.setIfInBounds_toArray, List.set_cons_zero, List.set_cons_succ])
  refine lin_step (i := 10) (d := some 27) (v := .pointer (some ⟨E.R, 3, none⟩)) rfl rfl (by kernel_rfl) (by kernel_rfl) rfl rfl (ord_value (by kernel_rfl) ?_) ?_
  · (intro s' w' hS; go_simp)
  (try simp only [Act.put, List.setIfInBounds_toArray, List.set_cons_zero, List.set_cons_succ])
  refine lin_step (i := 11) (d := some 28) (v := .int .i64 (E.n : Int)) rfl rfl (by kernel_rfl) (by kernel_rfl) rfl rfl (ord_value (by kernel_rfl) ?_) ?_
  · (intro s' w' hS; (obtain ⟨c1, c8, c4, c3⟩ := (⟨HC1.out _ hS.but, (HRA.out _ hS.but).cSteps, (HRA.out _ hS.but).head 4 _ rfl, (HRA.out _ hS.but).head 3 _ rfl⟩ : _ ∧ _ ∧ _ ∧ _); go_simp))
  (try simp only [Act.put, List.setIfInBounds_toArray, List.set_cons_zero, List.set_cons_succ])
  refine lin_step (i := 12) (d := some 29) (v := .slice (some ⟨E.F, E.n, none⟩) (E.q - E.n) (E.c - E.n)) rfl rfl (by kernel_rfl) (by kernel_rfl) rfl rfl (ord_value (by kernel_rfl) ?_) ?_
  · (intro s' w' hS; go_simp)
  (try simp only [Act.put, List.setIfInBounds_toArray, List.set_cons_zero, List.set_cons_succ])
  refine lin_turnD (i := 13) (d := some 30) [15, 17] (fun u s' => ∃ O k c, u = .slice O k c ∧ s' = (1, O, k, c)) rfl rfl (by kernel_rfl) (by kernel_rfl) rfl (by kernel_rfl) (⟨_, _, none, 0, 0, rfl, rfl⟩) (by kernel_rfl) (fun w' hS => en_clone hS HC.out (by go_simp <;> rfl) (HCL.out _ hS.but)) ?_
  rintro _ _ ⟨O, k, c, rfl, rfl⟩
  (try simp only [Act.put, List.setIfInBounds_toArray, List.set_cons_zero, List.set_cons_succ])
  refine lin_step (i := 14) (d := some 31) (v := .pointer (some ⟨C2, 3, none⟩)) rfl rfl (by kernel_rfl) (by kernel_rfl) rfl rfl (ord_value (by kernel_rfl) ?_) ?_
  · (intro s' w' hS; go_simp)
  (try simp only [Act.put, List.setIfInBounds_toArray, List.set_cons_zero, List.set_cons_succ])
  refine lin_turnD (i := 15) (d := none) [17] (fun u s' => u = undef ∧ s' = (2, O, k, c)) rfl rfl (by kernel_rfl) (by kernel_rfl) rfl (by kernel_rfl) (⟨_, _, rfl, rfl⟩) (by kernel_rfl) (fun w' hS => en_steps hS HC.out (.tmp 31) (.tmp 20) rfl rfl rfl) ?_
  rintro _ _ ⟨rfl, rfl⟩
  (try simp only [Act.put, List.setIfInBounds_toArray, List.set_cons_zero, List.set_cons_succ])
  refine lin_step (i := 16) (d := some 32) (v := .pointer (some ⟨C2, 4, none⟩)) rfl rfl (by kernel_rfl) (by kernel_rfl) rfl rfl (ord_value (by kernel_rfl) ?_) ?_
  · (intro s' w' hS; go_simp)
  (try simp only [Act.put, List.setIfInBounds_toArray, List.set_cons_zero, List.set_cons_succ])
  refine lin_turnD (i := 17) (d := none) [] (fun u s' => u = undef ∧ s' = (3, O, k, c)) rfl rfl (by kernel_rfl) (by kernel_rfl) rfl (by kernel_rfl) (⟨_, _, rfl, rfl⟩) (by kernel_rfl) (fun w' hS => en_out hS HC.out (.tmp 32) (.tmp 30) rfl rfl rfl) ?_
  rintro _ _ ⟨rfl, rfl⟩
  (try simp only [Act.put, List.setIfInBounds_toArray, List.set_cons_zero, List.set_cons_succ])
  refine lin_done (by kernel_rfl) ?_
  intro w' hS
  refine ⟨rfl, _, rfl, _, results_none rfl _ _ _, rfl, rfl, O, k, c, hS.row, (hS.out (show 1 ≤ 3 by decide)).1, (hS.out (show 1 ≤ 3 by decide)).2, hS.but⟩
end
end Go.Proofs.Ythngbakbiocadaa
