/-
  A step.
-/
import Derived.Test.YthngbakbiocadaaMt

namespace Go.Proofs.Ythngbakbiocadaa
set_option maxRecDepth 100000
open Go.ChangeShapes Go.WideShapes Go.ChangeAt Go.RowKit Go.Maps
open V
theorem run_load_at {t : TypeId} {n : Nat} (ht : RowT t n) {a : Act} {op : Oper} {w : World} {b o : Nat} {vs : List Value} (k : w.rangeAt b o vs) (hl : vs.length = n) (x : Operand) (ho : op.op = .load t x) (hx : a.eval x = .pointer (some ⟨b, o, none⟩)) : (execOp a.eval op).run Try.prog w = .ok (.value (.agg vs.toArray)) w := by
  obtain ⟨d, hd, hr⟩ := ht.row
  unfold execOp
  have := run_loadVar_mid (P := Try.prog) w b o t vs d k hd hr (by rw [ht.info, hl])
  simp only [ho, hx, Instr.loadAt, Instr.sureAddr, Sem.run_bind, Sem.run_pure, Result.andThen_ok, this]
def addStep : V.Res → V.Res
  | .on t => .on { t with steps := t.steps + 1 }
  | .done v t => .done v t
  | .flt y t => .flt y t
/-- the instruction that is next, on its way into a variable -/
def StS (W : World) (x : Y.In) : Nat × Nat → World → Prop
  | (0, _), w' => Below W.heap.size W w'
  | (1, g), w' => Below W.heap.size W w' ∧ RowAt w' g [.int .i64 0, .int .i64 0, .int .i64 0, .int .i64 0, .int .i64 0] ∧ W.heap.size ≤ g
  | (_ + 2, g), w' => Below W.heap.size W w' ∧ RowAt w' g (Yq.inL x) ∧ W.heap.size ≤ g
theorem StS.bel {W : World} {x : Y.In} {k : Nat × Nat} {w' : World} (h : StS W x k w') : Below W.heap.size W w' := by
  obtain ⟨k, g⟩ := k
  match k, h with
  | 0, h => exact h
  | 1, h => exact h.1
  | _ + 2, h => exact h.1
theorem st_alloc {W : World} {x : Y.In} {g0 : Nat} {a : Act} {op : Oper} {w' : World} (h : StS W x (0, g0) w') (hop : (execOp a.eval op).run Try.prog w' = .ok (.value (.pointer (some ⟨w'.heap.size, 0, none⟩))) (w'.alloc (.cells #[.int .i64 0, .int .i64 0, .int .i64 0, .int .i64 0, .int .i64 0] 64))) :
    Gives Try.prog (execOp a.eval op) w' fun u w'' => ∃ s', (∃ g, u = .pointer (some ⟨g, 0, none⟩) ∧ s' = (1, g)) ∧ StS W x s' w'' :=
  gives_to hop ⟨_, ⟨_, rfl, rfl⟩, h.trans ((below_new w' _).mono h.size), rowAt_new w' [.int .i64 0, .int .i64 0, .int .i64 0, .int .i64 0, .int .i64 0] _, h.size⟩
theorem st_store {W : World} {x : Y.In} {g : Nat} {a : Act} {op : Oper} {w' : World} (h : StS W x (1, g) w') (p q : Operand) (ho : op.op = .store 64 p q) (hx : a.eval p = .pointer (some ⟨g, 0, none⟩)) (hy : a.eval q = .agg (Yq.inL x).toArray) :
    Gives Try.prog (execOp a.eval op) w' fun u w'' => ∃ s', (u = undef ∧ s' = (2, g)) ∧ StS W x s' w'' :=
  gives_skip (run_store_row Yq.inT h.2.1 rfl rfl (Yq.inL_one x) p q ho hx hy) ⟨_, ⟨rfl, rfl⟩, below_setCells _ h.2.2 _ _ _ h.1, h.2.1.put _ rfl, h.2.2⟩
theorem nd_alu {K : V.Calc} {x : Y.In} {a b : Int} {s u : V.St} {v : Int} : alu K x a b s ≠ .done v u := by
  unfold alu
  split
  · intro h; cases h
  · split
    · intro h; cases h
    · intro h; cases h
theorem nd_other {K : V.Calc} {i : Bool} {x : Y.In} {s u : V.St} {v : Int} : V.other K i x s ≠ .done v u := by
  unfold V.other
  split
  · split
    · intro h; cases h
    · intro h; cases h
  · split
    · split
      · intro h; cases h
      · exact nd_alu
    · split
      · intro h; cases h
      · exact nd_alu
theorem nd_ldctx {a b v : Int} {s u : V.St} : ldctx a b s ≠ .done v u := by
  unfold ldctx
  split
  · intro h; cases h
  · intro h; cases h
theorem nd_ldstk {a b v : Int} {s u : V.St} : ldstk a b s ≠ .done v u := by
  unfold ldstk
  split
  · intro h; cases h
  · split
    · intro h; cases h
    · intro h; cases h
theorem nd_ite {c : Prop} [Decidable c] {A B : V.Res} {v : Int} {u : V.St} (ha : A ≠ .done v u) (hb : B ≠ .done v u) : (if c then A else B) ≠ .done v u := by
  split
  · exact ha
  · exact hb
theorem nd_nm {c : V.Cell} {s u : V.St} {f : Int → V.Res} {v : Int} (hf : ∀ n, f n ≠ .done v u) : (match c.nm with
    | .error w => .flt w s
    | .ok n => f n : V.Res) ≠ .done v u := by
  cases c.nm with
  | error w => intro h; cases h
  | ok n => exact hf n
theorem nd_rd {c d : V.Cell} {s u : V.St} {f : Int → Int → V.Res} {v : Int} (hf : ∀ a b, f a b ≠ .done v u) : (match rd2 c d with
    | .error w => .flt w s
    | .ok (a, b) => f a b : V.Res) ≠ .done v u := by
  cases rd2 c d with
  | error w => intro h; cases h
  | ok p => obtain ⟨a, b⟩ := p; exact hf a b
theorem nd_exec {K : V.Calc} {hi : Int → Bool} {h : Int} {x : Y.In} {s u : V.St} {v : Int} (h80 : ¬ x.op = 80) : V.exec K hi h x s ≠ .done v u := by
  unfold V.exec
  rw [if_neg h80]
  refine nd_ite (nd_ite (fun h => by cases h) (fun h => by cases h)) ?_
  refine nd_ite (fun h => by cases h) ?_
  refine nd_ite nd_call ?_
  refine nd_ite (fun h => by cases h) ?_
  refine nd_ite nd_ldctx ?_
  refine nd_ite (nd_nm fun n => nd_stctx) ?_
  refine nd_ite (nd_nm fun n => nd_ldctx) ?_
  refine nd_ite nd_ldstk ?_
  refine nd_ite (nd_nm fun n => nd_ststk) ?_
  refine nd_ite (nd_nm fun n => nd_ldstk) ?_
  refine nd_ite (nd_rd fun a b => nd_ststk) ?_
  refine nd_ite nd_ldval ?_
  refine nd_ite nd_stval ?_
  exact nd_other
section
variable {E : Ev} {S : Nat → Prop} {s t : V.St} {W : World}
theorem RunAt.cAt (h : RunAt E S s W) : W.cell? ⟨E.R, 53, none⟩ = some (.int .i64 s.at_) := h.tail 0 _ rfl
theorem RunAt.cSteps (h : RunAt E S s W) : W.cell? ⟨E.R, 54, none⟩ = some (.int .i64 (s.steps : Int)) := h.tail 1 _ rfl
theorem RunAt.cIns (h : RunAt E S s W) : W.cell? ⟨E.R, 2, none⟩ = some (.slice E.B E.m E.d) := h.head 2 _ rfl
set_option maxHeartbeats 1000000 in
theorem step_fuel_any (h : RunAt E S s W) (hs : 64 ≤ s.steps) : Calls Try.prog 43 #[.pointer (some ⟨E.R, 0, none⟩)] W fun e w' => e = whyE 1 ∧ Below W.heap.size W w' := by
  have c8 := h.cSteps
  have hd : Hid (decide ((s.steps : Int) < 64) = false) := Lib.hid (by simp; omega)
  have hd2 : Hid (decide (s.steps < 64) = false) := Lib.hid (by simp; omega)
  clear h hs
  go_enter Try.func43, Try.ntmps43
  go_wp2_with (go_at_call 47; (first | rw [hd.out] | rw [hd2.out] | skip); refine (ask_no 1 _).mono ?_; rintro e w2 ⟨rfl, rfl⟩; exact ⟨rfl, rfl, Below.refl _ _⟩)
set_option maxHeartbeats 2000000 in
theorem step_out_any (h : RunAt E S s W) (hs : s.steps < 64) (ho : s.at_ < 0 ∨ (E.m : Int) ≤ s.at_) : Calls Try.prog 43 #[.pointer (some ⟨E.R, 0, none⟩)] W fun e w' => e = whyE 2 ∧ Below W.heap.size W w' := by
  have c8 := h.cSteps
  have H := Lib.hid h
  have hd : Hid (decide ((s.steps : Int) < 64) = true) := Lib.hid (by simp; omega)
  have hd2 : Hid (decide (s.steps < 64) = true) := Lib.hid (by simp; omega)
  have HI := Lib.hid (inb_not ho)
  clear h hs ho
  go_enter Try.func43, Try.ntmps43
  go_upto_region 1 with (go_at_call 47; (first | rw [hd.out] | rw [hd2.out] | skip); refine (ask_yes 1 _).mono ?_; rintro e w2 ⟨rfl, rfl⟩)
  clear c8
  refine wp_region_linp (fun (k : Bool) (w' : World) => k = true ∧ Below W.heap.size W w') (fun ch w' => Ending.panicked ch = whyE 2 ∧ Below W.heap.size W w') (fun i => i == 10) (fun i => [.pointer (some ⟨E.R, 0, none⟩), .pointer (some ⟨E.R, 0, none⟩), .pointer (some ⟨E.R, 53, none⟩), .int .i64 s.at_, .pointer (some ⟨E.R, 0, none⟩), .pointer (some ⟨E.R, 0, none⟩), .pointer (some ⟨E.R, 2, none⟩), .slice E.B E.m E.d, .int .i64 (E.m : Int), .bool false, undef].getD i undef) (true) (by kernel_rfl) (by kernel_rfl) (fun ch a' w' hd hb => by
    obtain ⟨he, hb⟩ := hb
    injection he with he
    subst he
    exact ⟨hd, rfl, hb⟩) (⟨rfl, drew_below _⟩) ?_
  refine linp_step (i := 0) (d := some 9) (v := .pointer (some ⟨E.R, 0, none⟩)) rfl rfl (by kernel_rfl) (by kernel_rfl) rfl rfl (ord_value (by kernel_rfl) ?_) ?_
  · (intro s' w' hS; go_simp)
  (try simp only [Act.put, List.setIfInBounds_toArray, List.set_cons_zero, List.set_cons_succ])
  refine linp_step (i := 1) (d := some 10) (v := .pointer (some ⟨E.R, 0, none⟩)) rfl rfl (by kernel_rfl) (by kernel_rfl) rfl rfl (ord_value (by kernel_rfl) ?_) ?_
  · (intro s' w' hS; go_simp)
  (try simp only [Act.put, List.setIfInBounds_toArray, List.set_cons_zero, List.set_cons_succ])
  refine linp_step (i := 2) (d := some 11) (v := .pointer (some ⟨E.R, 53, none⟩)) rfl rfl (by kernel_rfl) (by kernel_rfl) rfl rfl (ord_value (by kernel_rfl) ?_) ?_
  · (intro s' w' hS; go_simp)
  (try simp only [Act.put, List.setIfInBounds_toArray, List.set_cons_zero, List.set_cons_succ])
  refine linp_step (i := 3) (d := some 12) (v := .int .i64 s.at_) rfl rfl (by kernel_rfl) (by kernel_rfl) rfl rfl (ord_value (by kernel_rfl) ?_) ?_
  · (intro s' w' hS; (obtain ⟨c2, c3⟩ := (And.intro (H.out.step hS.2).cIns (H.out.step hS.2).cAt); go_simp))
  (try simp only [Act.put, List.setIfInBounds_toArray, List.set_cons_zero, List.set_cons_succ])
  refine linp_step (i := 4) (d := some 13) (v := .pointer (some ⟨E.R, 0, none⟩)) rfl rfl (by kernel_rfl) (by kernel_rfl) rfl rfl (ord_value (by kernel_rfl) ?_) ?_
  · (intro s' w' hS; go_simp)
  (try simp only [Act.put, List.setIfInBounds_toArray, List.set_cons_zero, List.set_cons_succ])
  refine linp_step (i := 5) (d := some 14) (v := .pointer (some ⟨E.R, 0, none⟩)) rfl rfl (by kernel_rfl) (by kernel_rfl) rfl rfl (ord_value (by kernel_rfl) ?_) ?_
  · (intro s' w' hS; go_simp)
  (try simp only [Act.put, List.setIfInBounds_toArray, List.set_cons_zero, List.set_cons_succ])
  refine linp_step (i := 6) (d := some 15) (v := .pointer (some ⟨E.R, 2, none⟩)) rfl rfl (by kernel_rfl) (by kernel_rfl) rfl rfl (ord_value (by kernel_rfl) ?_) ?_
  · (intro s' w' hS; go_simp)
  (try simp only [Act.put, List.setIfInBounds_toArray, List.set_cons_zero, List.set_cons_succ])
  refine linp_step (i := 7) (d := some 16) (v := .slice E.B E.m E.d) rfl rfl (by kernel_rfl) (by kernel_rfl) rfl rfl (ord_value (by kernel_rfl) ?_) ?_
  · (intro s' w' hS; (obtain ⟨c2, c3⟩ := (And.intro (H.out.step hS.2).cIns (H.out.step hS.2).cAt); go_simp))
  (try simp only [Act.put, List.setIfInBounds_toArray, List.set_cons_zero, List.set_cons_succ])
  refine linp_step (i := 8) (d := some 17) (v := .int .i64 (E.m : Int)) rfl rfl (by kernel_rfl) (by kernel_rfl) rfl rfl (ord_value (by kernel_rfl) ?_) ?_
  · (intro s' w' hS; go_simp)
  (try simp only [Act.put, List.setIfInBounds_toArray, List.set_cons_zero, List.set_cons_succ])
  refine linp_step (i := 9) (d := some 18) (v := .bool false) rfl rfl (by kernel_rfl) (by kernel_rfl) rfl rfl (ord_call (f := 48) (args := #[.int .i64 s.at_, .int .i64 (E.m : Int)]) (by kernel_rfl) ?_ (fun s' w' hS => (within_any _ _ _).mono fun e w2 hh => ⟨by rw [hh.1, HI.out], by rw [← hh.2]; exact hS⟩)) ?_
  · (intro _; go_simp <;> rfl)
  (try simp only [Act.put, List.setIfInBounds_toArray, List.set_cons_zero, List.set_cons_succ])
  refine linp_turnD (i := 10) (d := some 19) [] (fun u k => u = .tuple #[] ∧ k = false) rfl rfl (by kernel_rfl) (by kernel_rfl) rfl (by kernel_rfl) (⟨_, _, rfl, rfl⟩) (by kernel_rfl) (fun w' hS => givesP_call (f := 47) (args := #[.bool false, .int .i64 2]) (by go_simp <;> rfl) ((ask_no 2 _).mono fun e w2 hh => Or.inr ⟨_, hh.1, rfl, by rw [← hh.2]; exact hS.2⟩)) ?_
  rintro _ _ ⟨rfl, rfl⟩
  (try simp only [Act.put, List.setIfInBounds_toArray, List.set_cons_zero, List.set_cons_succ])
  refine linp_done (by kernel_rfl) ?_
  intro w' hS
  cases hS.1
set_option maxHeartbeats 4000000 in
theorem step_in_any (hE : EvOk E) (h : RunAt E S s W) (hs : s.steps < 64) (k : Nat) (hk : k < E.m) (ha : s.at_ = (k : Int)) (x : Y.In) (hx : E.xs[k]? = some x) {r : V.Res}
    (hdo : ∀ S' W', RunAt E S' { s with at_ := s.at_ + 1 } W' → Calls Try.prog 49 #[.pointer (some ⟨E.R, 0, none⟩), .agg #[.int .i64 x.op, .int .i64 x.dst, .int .i64 x.src, .int .i64 x.off, .int .i64 x.imm]] W' (Wr E S' W' r)) (hst : ∀ t, r = .on t → t.steps = s.steps) : Calls Try.prog 43 #[.pointer (some ⟨E.R, 0, none⟩)] W (Wr E S W (addStep r)) := by
  have c8 := h.cSteps
  have H := Lib.hid h
  have hd : Hid (decide ((s.steps : Int) < 64) = true) := Lib.hid (by simp; omega)
  have hd2 : Hid (decide (s.steps < 64) = true) := Lib.hid (by simp; omega)
  have HI : Hid (inb s.at_ (E.m : Int) = true) := Lib.hid (inb_of (by rw [ha]; omega))
  obtain ⟨b, off, x', hB, hbl, hx', hrg⟩ := (hE.ins.step h.low).get k hk
  rw [hx] at hx'
  injection hx' with hx'
  subst hx'
  have HRG : Hid (∀ w', Below W.heap.size W w' → w'.rangeAt b (off + k * 5) (Yq.inL x)) := Lib.hid (fun w' hb j u hu => (hb.cell (p := ⟨b, off + k * 5 + j, none⟩) hbl).trans (hrg j u hu))
  have HB := Lib.hid hB
  have HA := Lib.hid ha
  have HDO := Lib.hid hdo
  have HST := Lib.hid hst
  have HS := Lib.hid hs
  have hk0 : (0 : Int) ≤ (k : Int) := by omega
  have hk1 : (k : Int) < (E.m : Int) := by omega
  have hm := hE.m
  have hw : IntKind.i64.wrap ((k : Int) + 1) = ((k : Int) + 1) := by rw [IntKind.wrap_i64]; omega
  clear h hs ha hx hdo hst hB hrg hm hk
  go_enter Try.func43, Try.ntmps43
  go_upto_region 1 with (go_at_call 47; (first | rw [hd.out] | rw [hd2.out] | skip); refine (ask_yes 1 _).mono ?_; rintro e w2 ⟨rfl, rfl⟩)
  clear c8
  refine wp_region_linp (fun (k : Bool) (w' : World) => k = true ∧ Below W.heap.size W w') (fun _ _ => False) (fun i => i == 10) (fun i => [.pointer (some ⟨E.R, 0, none⟩), .pointer (some ⟨E.R, 0, none⟩), .pointer (some ⟨E.R, 53, none⟩), .int .i64 s.at_, .pointer (some ⟨E.R, 0, none⟩), .pointer (some ⟨E.R, 0, none⟩), .pointer (some ⟨E.R, 2, none⟩), .slice E.B E.m E.d, .int .i64 (E.m : Int), .bool true, undef].getD i undef) (true) (by kernel_rfl) (by kernel_rfl) (fun _ _ _ _ hf => hf.elim) (⟨rfl, drew_below _⟩) ?_
  refine linp_step (i := 0) (d := some 9) (v := .pointer (some ⟨E.R, 0, none⟩)) rfl rfl (by kernel_rfl) (by kernel_rfl) rfl rfl (ord_value (by kernel_rfl) ?_) ?_
  · (intro s' w' hS; go_simp)
  (try simp only [Act.put, List.setIfInBounds_toArray, List.set_cons_zero, List.set_cons_succ])
  refine linp_step (i := 1) (d := some 10) (v := .pointer (some ⟨E.R, 0, none⟩)) rfl rfl (by kernel_rfl) (by kernel_rfl) rfl rfl (ord_value (by kernel_rfl) ?_) ?_
  · (intro s' w' hS; go_simp)
  (try simp only [Act.put, List.setIfInBounds_toArray, List.set_cons_zero, List.set_cons_succ])
  refine linp_step (i := 2) (d := some 11) (v := .pointer (some ⟨E.R, 53, none⟩)) rfl rfl (by kernel_rfl) (by kernel_rfl) rfl rfl (ord_value (by kernel_rfl) ?_) ?_
  · (intro s' w' hS; go_simp)
  (try simp only [Act.put, List.setIfInBounds_toArray, List.set_cons_zero, List.set_cons_succ])
  refine linp_step (i := 3) (d := some 12) (v := .int .i64 s.at_) rfl rfl (by kernel_rfl) (by kernel_rfl) rfl rfl (ord_value (by kernel_rfl) ?_) ?_
  · (intro s' w' hS; (obtain ⟨c2, c3⟩ := (And.intro (H.out.step hS.2).cIns (H.out.step hS.2).cAt); go_simp))
  (try simp only [Act.put, List.setIfInBounds_toArray, List.set_cons_zero, List.set_cons_succ])
  refine linp_step (i := 4) (d := some 13) (v := .pointer (some ⟨E.R, 0, none⟩)) rfl rfl (by kernel_rfl) (by kernel_rfl) rfl rfl (ord_value (by kernel_rfl) ?_) ?_
  · (intro s' w' hS; go_simp)
  (try simp only [Act.put, List.setIfInBounds_toArray, List.set_cons_zero, List.set_cons_succ])
  refine linp_step (i := 5) (d := some 14) (v := .pointer (some ⟨E.R, 0, none⟩)) rfl rfl (by kernel_rfl) (by kernel_rfl) rfl rfl (ord_value (by kernel_rfl) ?_) ?_
  · (intro s' w' hS; go_simp)
  (try simp only [Act.put, List.setIfInBounds_toArray, List.set_cons_zero, List.set_cons_succ])
  refine linp_step (i := 6) (d := some 15) (v := .pointer (some ⟨E.R, 2, none⟩)) rfl rfl (by kernel_rfl) (by kernel_rfl) rfl rfl (ord_value (by kernel_rfl) ?_) ?_
  · (intro s' w' hS; go_simp)
  (try simp only [Act.put, List.setIfInBounds_toArray, List.set_cons_zero, List.set_cons_succ])
  refine linp_step (i := 7) (d := some 16) (v := .slice E.B E.m E.d) rfl rfl (by kernel_rfl) (by kernel_rfl) rfl rfl (ord_value (by kernel_rfl) ?_) ?_
  · (intro s' w' hS; (obtain ⟨c2, c3⟩ := (And.intro (H.out.step hS.2).cIns (H.out.step hS.2).cAt); go_simp))
  (try simp only [Act.put, List.setIfInBounds_toArray, List.set_cons_zero, List.set_cons_succ])
  refine linp_step (i := 8) (d := some 17) (v := .int .i64 (E.m : Int)) rfl rfl (by kernel_rfl) (by kernel_rfl) rfl rfl (ord_value (by kernel_rfl) ?_) ?_
  · (intro s' w' hS; go_simp)
  (try simp only [Act.put, List.setIfInBounds_toArray, List.set_cons_zero, List.set_cons_succ])
  refine linp_step (i := 9) (d := some 18) (v := .bool true) rfl rfl (by kernel_rfl) (by kernel_rfl) rfl rfl (ord_call (f := 48) (args := #[.int .i64 s.at_, .int .i64 (E.m : Int)]) (by kernel_rfl) ?_ (fun s' w' hS => (within_any _ _ _).mono fun e w2 hh => ⟨by rw [hh.1, HI.out], by rw [← hh.2]; exact hS⟩)) ?_
  · (intro _; go_simp <;> rfl)
  (try simp only [Act.put, List.setIfInBounds_toArray, List.set_cons_zero, List.set_cons_succ])
  refine linp_turnD (i := 10) (d := some 19) [] (fun u k => u = .tuple #[] ∧ k = true) rfl rfl (by kernel_rfl) (by kernel_rfl) rfl (by kernel_rfl) (⟨_, _, rfl, rfl⟩) (by kernel_rfl) (fun w' hS => givesP_call (f := 47) (args := #[.bool true, .int .i64 2]) (by go_simp <;> rfl) ((ask_yes 2 _).mono fun e w2 hh => Or.inl ⟨_, hh.1, true, ⟨rfl, rfl⟩, by rw [← hh.2]; exact hS⟩)) ?_
  rintro _ _ ⟨rfl, rfl⟩
  (try simp only [Act.put, List.setIfInBounds_toArray, List.set_cons_zero, List.set_cons_succ])
  refine linp_done (by kernel_rfl) ?_
  intro w2 hS
  have HB2 := Lib.hid hS.2
  clear hS
  go_upto_region 2 with fail
  refine wp_region_lin (StS W x) (fun i => i == 10 || i == 11) (fun i => [.pointer (some ⟨E.R, 0, none⟩), .pointer (some ⟨E.R, 0, none⟩), .pointer (some ⟨E.R, 2, none⟩), .slice (some ⟨b, off, none⟩) E.m E.d, .pointer (some ⟨E.R, 0, none⟩), .pointer (some ⟨E.R, 0, none⟩), .pointer (some ⟨E.R, 53, none⟩), .int .i64 (k : Int), .pointer (some ⟨b, off + k * 5, none⟩), .agg #[.int .i64 x.op, .int .i64 x.dst, .int .i64 x.src, .int .i64 x.off, .int .i64 x.imm], undef, undef].getD i undef) ((0, 0)) (by kernel_rfl) (by kernel_rfl) (HB2.out.drew) ?_
  refine lin_step (i := 0) (d := some 20) (v := .pointer (some ⟨E.R, 0, none⟩)) rfl rfl (by kernel_rfl) (by kernel_rfl) rfl rfl (ord_value (by kernel_rfl) ?_) ?_
  · (intro s' w' hS; go_simp)
  (try simp only [Act.put, List.setIfInBounds_toArray, List.set_cons_zero, List.set_cons_succ])
  refine lin_step (i := 1) (d := some 21) (v := .pointer (some ⟨E.R, 0, none⟩)) rfl rfl (by kernel_rfl) (by kernel_rfl) rfl rfl (ord_value (by kernel_rfl) ?_) ?_
  · (intro s' w' hS; go_simp)
  (try simp only [Act.put, List.setIfInBounds_toArray, List.set_cons_zero, List.set_cons_succ])
  refine lin_step (i := 2) (d := some 22) (v := .pointer (some ⟨E.R, 2, none⟩)) rfl rfl (by kernel_rfl) (by kernel_rfl) rfl rfl (ord_value (by kernel_rfl) ?_) ?_
  · (intro s' w' hS; go_simp)
  (try simp only [Act.put, List.setIfInBounds_toArray, List.set_cons_zero, List.set_cons_succ])
  refine lin_step (i := 3) (d := some 23) (v := .slice (some ⟨b, off, none⟩) E.m E.d) rfl rfl (by kernel_rfl) (by kernel_rfl) rfl rfl (ord_value (by kernel_rfl) ?_) ?_
  · (intro s' w' hS; (obtain ⟨c2, c3⟩ := (And.intro (H.out.step hS.bel).cIns (H.out.step hS.bel).cAt); rw [HB.out] at c2; rw [HA.out] at c3; go_simp))
  (try simp only [Act.put, List.setIfInBounds_toArray, List.set_cons_zero, List.set_cons_succ])
  refine lin_step (i := 4) (d := some 24) (v := .pointer (some ⟨E.R, 0, none⟩)) rfl rfl (by kernel_rfl) (by kernel_rfl) rfl rfl (ord_value (by kernel_rfl) ?_) ?_
  · (intro s' w' hS; go_simp)
  (try simp only [Act.put, List.setIfInBounds_toArray, List.set_cons_zero, List.set_cons_succ])
  refine lin_step (i := 5) (d := some 25) (v := .pointer (some ⟨E.R, 0, none⟩)) rfl rfl (by kernel_rfl) (by kernel_rfl) rfl rfl (ord_value (by kernel_rfl) ?_) ?_
  · (intro s' w' hS; go_simp)
  (try simp only [Act.put, List.setIfInBounds_toArray, List.set_cons_zero, List.set_cons_succ])
  refine lin_step (i := 6) (d := some 26) (v := .pointer (some ⟨E.R, 53, none⟩)) rfl rfl (by kernel_rfl) (by kernel_rfl) rfl rfl (ord_value (by kernel_rfl) ?_) ?_
  · (intro s' w' hS; go_simp)
  (try simp only [Act.put, List.setIfInBounds_toArray, List.set_cons_zero, List.set_cons_succ])
  refine lin_step (i := 7) (d := some 27) (v := .int .i64 (k : Int)) rfl rfl (by kernel_rfl) (by kernel_rfl) rfl rfl (ord_value (by kernel_rfl) ?_) ?_
  · (intro s' w' hS; (obtain ⟨c2, c3⟩ := (And.intro (H.out.step hS.bel).cIns (H.out.step hS.bel).cAt); rw [HB.out] at c2; rw [HA.out] at c3; go_simp))
  (try simp only [Act.put, List.setIfInBounds_toArray, List.set_cons_zero, List.set_cons_succ])
  refine lin_step (i := 8) (d := some 28) (v := .pointer (some ⟨b, off + k * 5, none⟩)) rfl rfl (by kernel_rfl) (by kernel_rfl) rfl rfl (ord_value (by kernel_rfl) ?_) ?_
  · (intro s' w' hS; go_simp)
  (try simp only [Act.put, List.setIfInBounds_toArray, List.set_cons_zero, List.set_cons_succ])
  refine lin_step (i := 9) (d := some 29) (v := .agg #[.int .i64 x.op, .int .i64 x.dst, .int .i64 x.src, .int .i64 x.off, .int .i64 x.imm]) rfl rfl (by kernel_rfl) (by kernel_rfl) rfl rfl (ord_value (by kernel_rfl) (fun s' w' hS => run_load_at Yq.inT (vs := Yq.inL x) (HRG.out _ hS.bel) rfl (.tmp 28) rfl rfl)) ?_
  (try simp only [Act.put, List.setIfInBounds_toArray, List.set_cons_zero, List.set_cons_succ])
  refine lin_turnD (i := 10) (d := some 2) [11] (fun u s' => ∃ g, u = .pointer (some ⟨g, 0, none⟩) ∧ s' = (1, g)) rfl rfl (by kernel_rfl) (by kernel_rfl) rfl (by kernel_rfl) (⟨_, _, 0, rfl, rfl⟩) (by kernel_rfl) (fun w' hS => st_alloc hS (by go_simp)) ?_
  rintro _ _ ⟨g, rfl, rfl⟩
  (try simp only [Act.put, List.setIfInBounds_toArray, List.set_cons_zero, List.set_cons_succ])
  refine lin_turnD (i := 11) (d := none) [] (fun u s' => u = undef ∧ s' = (2, g)) rfl rfl (by kernel_rfl) (by kernel_rfl) rfl (by kernel_rfl) (⟨_, _, rfl, rfl⟩) (by kernel_rfl) (fun w' hS => st_store hS (.tmp 2) (.tmp 29) rfl rfl rfl) ?_
  rintro _ _ ⟨rfl, rfl⟩
  (try simp only [Act.put, List.setIfInBounds_toArray, List.set_cons_zero, List.set_cons_succ])
  refine lin_done (by kernel_rfl) ?_
  intro w3 hS
  obtain ⟨hb3, hr3, hg3⟩ := hS
  have HB3 := Lib.hid hb3
  have R3 := Lib.hid hr3
  have HG := Lib.hid hg3
  have H3 := H.out.step hb3
  have ca := H3.cAt
  rw [HA.out] at ca
  have fa := H3.frz 53 (by omega)
  have HT := Lib.hid (H3.setAt hE ((k : Int) + 1))
  have HNR : Hid (g ≠ E.R) := Lib.hid (fun e => by have := H.out.Rlt; omega)
  have HNO : Hid (¬ Own E S g) := Lib.hid (fun hk => by have := H.out.ownLt hk; omega)
  clear H3 hb3 hr3 hg3
  go_upto_region 4 with fail
  have R4 := Lib.hid (R3.out.put_other E.R 53 [.int .i64 ((k : Int) + 1)] HNR.out)
  rw [setCells_one] at R4
  clear ca fa
  generalize World.setCell _ _ _ = w4 at HT R4 ⊢
  obtain ⟨S4, h4, hbut4, hs4⟩ := HT.out
  have HD := HDO.out S4 w4 (by rw [HA.out]; exact h4)
  have HT4 : Hid (RunTo E S W { s with at_ := (k : Int) + 1 } w4) := Lib.hid (RunTo.back HB3.out HT.out)
  have HBUT := Lib.hid hbut4
  have HS4 := Lib.hid hs4
  have H4 := Lib.hid h4
  have c0 := R4.out.cell 0 _ rfl
  have c1 := R4.out.cell 1 _ rfl
  have c2 := R4.out.cell 2 _ rfl
  have c3 := R4.out.cell 3 _ rfl
  have c4 := R4.out.cell 4 _ rfl
  have HTR : Hid (∀ t w', RunTo E S4 w4 t w' → RunTo E S W t w') := Lib.hid (fun t w' hto => RunTo.back HB3.out (RunTo.trans HBUT.out HS4.out hto))
  clear hbut4 hs4 h4
  cases r with
  | flt y t =>
    have HD' := Lib.hid HD
    clear HD
    go_wp2_with (go_at_call 49; (with_reducible refine (HD'.out).mono ?_); rintro e w5 ⟨rfl, hto⟩; exact ⟨rfl, rfl, HTR.out _ _ hto⟩)
  | done v t =>
    have HD' := Lib.hid HD
    clear HD
    go_wp2_with (go_at_call 49; (with_reducible refine (HD'.out).mono ?_); rintro e w5 ⟨rfl, hto⟩; exact ⟨rfl, rfl, HTR.out _ _ hto⟩)
  | on t =>
    have HD' := Lib.hid HD
    have hts := HST.out t rfl
    have hw2 : IntKind.i64.wrap ((t.steps : Int) + 1) = ((t.steps + 1 : Nat) : Int) := by rw [IntKind.wrap_i64]; have := HS.out; omega
    clear HD hts
    go_upto_region 5 with (go_at_call 49; (with_reducible refine (HD'.out).mono ?_); rintro e w5 ⟨rfl, hto⟩; have HT5 := Lib.hid (HTR.out _ _ hto); clear hto c0 c1 c2 c3 c4)
    obtain ⟨S5, h5, hbut5, hs5⟩ := HT5.out
    have c8 := h5.cSteps
    have f8 := h5.frz 54 (by omega)
    have HR := Lib.hid (RunTo.trans hbut5 hs5 (h5.setSteps hE (t.steps + 1)))
    clear h5 hbut5 hs5
    go_wp2
    go_end0
    exact ⟨rfl, HR.out⟩
theorem step_any (hE : EvOk E) (h : RunAt E S s W) : Calls Try.prog 43 #[.pointer (some ⟨E.R, 0, none⟩)] W (Wr E S W (V.step runK runHi E.h E.xs s)) := by
  by_cases h64 : 64 ≤ s.steps
  · rw [V.step_fuel h64]
    exact (step_fuel_any h h64).mono fun e w' hh => wr_flt h hh
  · by_cases hat : s.at_ < 0
    · rw [V.step_below h64 hat]
      exact (step_out_any h (by omega) (Or.inl hat)).mono fun e w' hh => wr_flt h hh
    · have hlen := hE.ins.len
      cases hx : E.xs[s.at_.toNat]? with
      | none =>
        rw [V.step_out h64 hat hx]
        have := List.getElem?_eq_none_iff.1 hx
        exact (step_out_any h (by omega) (Or.inr (by omega))).mono fun e w' hh => wr_flt h hh
      | some x =>
        rw [V.step_in h64 hat hx]
        have hlt := (List.getElem?_eq_some_iff.1 hx).1
        have hm := hE.m
        have hright : Y.right x = true := by
          have := hE.right
          unfold Y.all at this
          rw [Bool.and_eq_true, List.all_eq_true] at this
          exact this.1 x (List.mem_of_getElem? hx)
        have hP := V.exec_P runK runHi (V.steps_keeps s.steps) (V.steps_keepsD E.h s.steps) (x := x) (s := { s with at_ := s.at_ + 1 }) rfl
        refine (step_in_any hE h (by omega) s.at_.toNat (by omega) (by omega) x hx (r := doF E.h x { s with at_ := s.at_ + 1 }) (fun S' W' hr => do_any hE hr x hright (by show -100000 ≤ s.at_ + 1 ∧ s.at_ + 1 ≤ 100000; omega) (by show s.steps ≤ 1000; omega)) (fun t ht => ?_)).mono fun e w' hh => ?_
        · unfold doF at ht
          split at ht
          · split at ht <;> cases ht
          · rw [ht] at hP
            exact hP
        · unfold doF at hh
          by_cases h80 : x.op = 80
          · rw [if_pos h80] at hh
            have e80 : V.exec runK runHi E.h x { s with at_ := s.at_ + 1 } = (match (V.St.r { s with at_ := s.at_ + 1 } 0).nm with
              | .error w => .flt w { s with at_ := s.at_ + 1 }
              | .ok n => .done n { s with at_ := s.at_ + 1 }) := by unfold V.exec; rw [if_pos h80]; rfl
            rw [e80]
            cases hn : (V.St.r { s with at_ := s.at_ + 1 } 0).nm with
            | error y => rw [hn] at hh; exact hh
            | ok n => rw [hn] at hh; exact hh
          · rw [if_neg h80] at hh
            cases hr : V.exec runK runHi E.h x { s with at_ := s.at_ + 1 } with
            | on t => rw [hr] at hh; exact hh
            | flt y t => rw [hr] at hh; exact hh
            | done v t => exact absurd hr (nd_exec h80)
end
end Go.Proofs.Ythngbakbiocadaa

/-
  Numbers copied by Clone.
-/
namespace Go.Proofs.Ythngbakbiocadaa
set_option maxRecDepth 100000
open Go.ChangeShapes Go.WideShapes Go.ChangeAt Go.RowKit Go.Maps
open V
theorem own_ints {w : World} {base : Nat} {t : TypeId} {A : Option Addr} {n c : Nat} {ks : List Int} (h : w.ownsRow base t 1 (.slice A n c) n (intV ks)) (hn : ks.length = n) : NumsAt w A n ks ∧ ∀ b off, A = some ⟨b, off, none⟩ → base ≤ b ∧ b < w.heap.size := by
  rcases h.2 with ⟨e, e2⟩ | ⟨g, cap, cur, e, hb, hg, _⟩
  · injection e with e _ _
    refine ⟨⟨hn, ⟨fun h0 => ?_⟩⟩, fun b off q => by rw [e] at q; cases q⟩
    rw [List.length_map] at h0
    omega
  · injection e with e _ _
    subst e
    have hlt : g < w.heap.size := (Array.getElem?_eq_some_iff.1 hg).1
    refine ⟨⟨hn, ⟨fun h0 => ⟨g, 0, rfl, hlt, fun i r hr j u hu => ?_⟩⟩⟩, fun b off q => ?_⟩
    · rw [List.getElem?_map] at hr
      obtain ⟨k, hk, rfl⟩ := Option.map_eq_some_iff.1 hr
      have hj : j = 0 := by have := (List.getElem?_eq_some_iff.1 hu).1; simp at this; omega
      subst hj
      simp at hu
      subst hu
      have := h.cells (g := g) rfl i (.int .i64 k) (by unfold intV; rw [List.getElem?_map, hk]; rfl)
      rw [Nat.zero_add, Nat.mul_one, Nat.add_zero]
      rwa [Addr.add_mid, Nat.zero_add] at this
    · injection q with q
      injection q with q _
      subst q
      exact ⟨hb, hlt⟩
theorem empty_ints (w : World) (t : TypeId) : (w.alloc (.cells #[] t)).ownsRow w.heap.size t 1 (.slice (some ⟨w.heap.size, 0, none⟩) 0 0) 0 (intV []) := ⟨rfl, Or.inr ⟨w.heap.size, 0, #[], rfl, Nat.le_refl _, heap_alloc_new w _, Nat.le_refl _, by unfold maxLen; omega, rfl, rfl⟩⟩
set_option maxRecDepth 100000 in
set_option maxHeartbeats 2000000 in
theorem clone_ints (b o n c : Nat) (ks : List Int) (w : World) (hlen : ks.length = n) (hb : b < w.heap.size) (hcl : ∀ j u, (intV ks)[j]? = some u → w.cell? ⟨b, o + j, none⟩ = some u) (hn : n ≤ 1000) :
    Calls Try.prog 42 #[.slice (some ⟨b, o, none⟩) n c] w fun e w' => ∃ A d, e = .returned (.slice A n d) ∧ NumsAt w' A n ks ∧ Below w.heap.size w w' ∧ ∀ b off, A = some ⟨b, off, none⟩ → w.heap.size ≤ b ∧ b < w'.heap.size := by
  have HL := Lib.hid hlen
  have HW : Hid (Below w.heap.size w (w.alloc (.cells #[] 3))) := Lib.hid (below_new w _)
  have HE := Lib.hid (empty_ints w 3)
  have HS : Hid (∀ j u, (intV ks)[j]? = some u → (w.alloc (.cells #[] 3)).cell? ((⟨b, o, none⟩ : Addr).add j) = some u) := Lib.hid (fun j u hu => by
    rw [Addr.add_mid, HW.out.cell (p := ⟨b, o + j, none⟩) hb]
    exact hcl j u hu)
  have HC : Hid ((intV ks).length = n * 1) := Lib.hid (by unfold intV; rw [List.length_map, hlen, Nat.mul_one])
  have HZ : Hid (w.heap.size ≤ (w.alloc (.cells #[] 3)).heap.size) := Lib.hid (by simp)
  have HO := Lib.hid (intV_one ks)
  obtain ⟨i0, hi0, hz0, hs0, hb0⟩ := info_parts info_int
  have HI0 := Lib.hid hi0
  have HZ0 := Lib.hid hz0
  have HS0 := Lib.hid hs0
  have HB0 := Lib.hid hb0
  clear hlen hb hcl hi0 hz0 hs0 hb0
  have hcmp : ∀ w, (binOp BinOp.eql 22 (.slice (some ⟨b, o, none⟩) n c) (.slice none 0 0)).run Try.prog w = .ok (.bool false) w := fun w => by kernel_rfl
  go_enter Try.func42, Try.ntmps42
  go_wp2_with (at_builtin; go_must (refine wpList_append_own_at _ rfl (.tmp 5) (.tmp 6) 22 rfl w.heap.size 3 i0 _ 1 8 Try.underlying22 HI0.out HZ0.out HS0.out HB0.out rfl (by omega) _ 0 _ rfl HE.out ⟨b, o, none⟩ n c (intV ks) rfl HC.out HS.out HO.out (by unfold maxLen; omega) (by omega) HZ.out ?_); intro v' w5 hown' hgrow hnil hloc; rw [Nat.zero_add] at hown'; obtain ⟨A, d, rfl⟩ := owns_slice hown'; have HF : Hid ((NumsAt w5 A n ks ∧ ∀ b off, A = some ⟨b, off, none⟩ → w.heap.size ≤ b ∧ b < w5.heap.size) ∧ Below w.heap.size w w5) := Lib.hid ⟨own_ints hown' HL.out, HW.out.grown hgrow HZ.out (fun k hk => by injection hk with hk; rw [← hk]; exact Nat.le_refl _)⟩; clear hown' hgrow hnil hloc)
  go_ret
  exact ⟨A, d, rfl, HF.out.1.1, HF.out.2, HF.out.1.2⟩
end Go.Proofs.Ythngbakbiocadaa
