/-
  What an instruction does: fields and words loaded.
-/
import Derived.Test.YthngbakbiocadaaMq

namespace Go.Proofs.Ythngbakbiocadaa
set_option maxRecDepth 100000
open Go.ChangeShapes Go.WideShapes Go.ChangeAt Go.RowKit Go.Maps
open V
section
variable {E : Ev} {S : Nat → Prop} {s t : V.St} {W : World}
/-- on the way through a region: nothing changed; the run changed; never -/
def DoS (E : Ev) (S : Nat → Prop) (t : V.St) (W : World) (x : Y.In) : Nat → World → Prop
  | 0, w' => RowAt w' W.heap.size (Yq.inL x) ∧ Below W.heap.size W w'
  | 1, w' => RowAt w' W.heap.size (Yq.inL x) ∧ RunTo E S W t w'
  | _ + 2, w' => RowAt w' W.heap.size (Yq.inL x) ∧ False
theorem DoS.row {x : Y.In} {k : Nat} {w' : World} (h : DoS E S t W x k w') : RowAt w' W.heap.size (Yq.inL x) := by
  match k, h with
  | 0, h => exact h.1
  | 1, h => exact h.1
  | _ + 2, h => exact h.1
theorem DoS.cells {x : Y.In} {k : Nat} {w' : World} (h : DoS E S t W x k w') : w'.cell? ⟨W.heap.size, 0, none⟩ = some (.int .i64 x.op) ∧ w'.cell? ⟨W.heap.size, 1, none⟩ = some (.int .i64 x.dst) ∧ w'.cell? ⟨W.heap.size, 2, none⟩ = some (.int .i64 x.src) ∧ w'.cell? ⟨W.heap.size, 3, none⟩ = some (.int .i64 x.off) ∧ w'.cell? ⟨W.heap.size, 4, none⟩ = some (.int .i64 x.imm) :=
  ⟨h.row.cell 0 _ rfl, h.row.cell 1 _ rfl, h.row.cell 2 _ rfl, h.row.cell 3 _ rfl, h.row.cell 4 _ rfl⟩
theorem DoS.read {x : Y.In} {w' w'' : World} (h : DoS E S t W x 0 w') (hb : Below w'.heap.size w' w'') : DoS E S t W x 0 w'' := ⟨RowAt.step (v := .int .i64 x.op) (vs := [.int .i64 x.dst, .int .i64 x.src, .int .i64 x.off, .int .i64 x.imm]) h.1 hb, h.2.trans (hb.mono h.2.size)⟩
theorem DoS.turn {x : Y.In} {w' w'' : World} (h : DoS E S t W x 0 w') (hn : ¬ Own E S W.heap.size) (hto : RunTo E S w' t w'') : DoS E S t W x 1 w'' := ⟨RunTo.row (v := .int .i64 x.op) (vs := [.int .i64 x.dst, .int .i64 x.src, .int .i64 x.off, .int .i64 x.imm]) hto h.1 hn, RunTo.back h.2 hto⟩
theorem DoS.end_ {x : Y.In} {w' w'' : World} (h : DoS E S t W x 0 w') (hto : RunTo E S w' t w'') : RunTo E S W t w'' := RunTo.back h.2 hto
theorem DoS.start {x : Y.In} {w' : World} (h : Yq.BoxS W W.heap.size x w') : DoS E S t W x 0 w'.drew := ⟨(h.call (drew_below _)).row, (h.call (drew_below _)).bel⟩
def BadE (E : Ev) (S : Nat → Prop) (t : V.St) (W : World) (y : Nat) (ch : List PanicEntry) (w' : World) : Prop := Ending.panicked ch = whyE y ∧ RunTo E S W t w'
set_option maxHeartbeats 4000000 in
theorem do_48_ok (h : RunAt E S s W) (v : Int) (d sr f im : Int) (hf : ∀ W', Below W.heap.size W W' → Calls Try.prog 52 #[.pointer (some ⟨E.R, 0, none⟩), .int .i64 f] W' fun e w' => e = .returned (.int .i64 v) ∧ Below W'.heap.size W' w') (hl : ∀ W', Below W.heap.size W W' → Calls Try.prog 51 #[.pointer (some ⟨E.R, 0, none⟩), .int .i64 d, .int .i64 v] W' fun e w' => e = .returned (.tuple #[]) ∧ RunTo E S W' t w') : Calls Try.prog 49 #[.pointer (some ⟨E.R, 0, none⟩), .agg #[.int .i64 48, .int .i64 d, .int .i64 sr, .int .i64 f, .int .i64 im]] W fun e w' => e = .returned (.tuple #[]) ∧ RunTo E S W t w' := by
  have H := Lib.hid h
  have HX := Lib.hid (Yq.boxS_new W (⟨48, d, sr, f, im⟩ : Y.In) 64)
  have HNO : Hid (¬ Own E S W.heap.size) := Lib.hid (fun hk => by have := h.ownLt hk; omega)
  have HF := Lib.hid hf
  have HL := Lib.hid hl
  clear h hf hl
  go_enter Try.func49, Try.ntmps49
  go_upto_region 1 with fail
  generalize W.alloc (.cells #[.int .i64 48, .int .i64 d, .int .i64 sr, .int .i64 f, .int .i64 im] 64) = W1 at HX ⊢
  obtain ⟨c0, c1, c2, c3, c4⟩ := HX.out.cells
  go_upto_region 11 with fail
  clear c0 c1 c2 c3 c4
  refine wp_region_linp (DoS E S t W (⟨48, d, sr, f, im⟩ : Y.In)) (fun _ _ => False) (fun i => i == 6 || i == 7) (fun i => [.pointer (some ⟨E.R, 0, none⟩), .pointer (some ⟨W.heap.size, 1, none⟩), .int .i64 d, .pointer (some ⟨E.R, 0, none⟩), .pointer (some ⟨W.heap.size, 3, none⟩), .int .i64 f, undef, undef].getD i undef) (0) (by kernel_rfl) (by kernel_rfl) (fun _ _ _ _ hf => hf.elim) (DoS.start HX.out) ?_
  refine linp_step (i := 0) (d := some 45) (v := .pointer (some ⟨E.R, 0, none⟩)) rfl rfl (by kernel_rfl) (by kernel_rfl) rfl rfl (ord_value (by kernel_rfl) ?_) ?_
  · (intro s' w' hS; go_simp)
  (try simp only [Act.put, List.setIfInBounds_toArray, List.set_cons_zero, List.set_cons_succ])
  refine linp_step (i := 1) (d := some 46) (v := .pointer (some ⟨W.heap.size, 1, none⟩)) rfl rfl (by kernel_rfl) (by kernel_rfl) rfl rfl (ord_value (by kernel_rfl) ?_) ?_
  · (intro s' w' hS; go_simp)
  (try simp only [Act.put, List.setIfInBounds_toArray, List.set_cons_zero, List.set_cons_succ])
  refine linp_step (i := 2) (d := some 47) (v := .int .i64 d) rfl rfl (by kernel_rfl) (by kernel_rfl) rfl rfl (ord_value (by kernel_rfl) ?_) ?_
  · (intro s' w' hS; (obtain ⟨c0, c1, c2, c3, c4⟩ := hS.cells; go_simp))
  (try simp only [Act.put, List.setIfInBounds_toArray, List.set_cons_zero, List.set_cons_succ])
  refine linp_step (i := 3) (d := some 48) (v := .pointer (some ⟨E.R, 0, none⟩)) rfl rfl (by kernel_rfl) (by kernel_rfl) rfl rfl (ord_value (by kernel_rfl) ?_) ?_
  · (intro s' w' hS; go_simp)
  (try simp only [Act.put, List.setIfInBounds_toArray, List.set_cons_zero, List.set_cons_succ])
  refine linp_step (i := 4) (d := some 49) (v := .pointer (some ⟨W.heap.size, 3, none⟩)) rfl rfl (by kernel_rfl) (by kernel_rfl) rfl rfl (ord_value (by kernel_rfl) ?_) ?_
  · (intro s' w' hS; go_simp)
  (try simp only [Act.put, List.setIfInBounds_toArray, List.set_cons_zero, List.set_cons_succ])
  refine linp_step (i := 5) (d := some 50) (v := .int .i64 f) rfl rfl (by kernel_rfl) (by kernel_rfl) rfl rfl (ord_value (by kernel_rfl) ?_) ?_
  · (intro s' w' hS; (obtain ⟨c0, c1, c2, c3, c4⟩ := hS.cells; go_simp))
  (try simp only [Act.put, List.setIfInBounds_toArray, List.set_cons_zero, List.set_cons_succ])
  refine linp_turnD (i := 6) (d := some 51) [7] (fun u k => u = .int .i64 v ∧ k = 0) rfl rfl (by kernel_rfl) (by kernel_rfl) rfl (by kernel_rfl) (⟨_, _, rfl, rfl⟩) (by kernel_rfl) (fun w' hS => givesP_call (f := 52) (args := #[.pointer (some ⟨E.R, 0, none⟩), .int .i64 f]) (by go_simp <;> rfl) ((HF.out _ hS.2).mono fun e w2 hh => Or.inl ⟨_, hh.1, 0, ⟨rfl, rfl⟩, hS.read hh.2⟩)) ?_
  rintro _ _ ⟨rfl, rfl⟩
  (try simp only [Act.put, List.setIfInBounds_toArray, List.set_cons_zero, List.set_cons_succ])
  refine linp_turnD (i := 7) (d := some 52) [] (fun u k => u = .tuple #[] ∧ k = 1) rfl rfl (by kernel_rfl) (by kernel_rfl) rfl (by kernel_rfl) (⟨_, _, rfl, rfl⟩) (by kernel_rfl) (fun w' hS => givesP_call (f := 51) (args := #[.pointer (some ⟨E.R, 0, none⟩), .int .i64 d, .int .i64 v]) (by go_simp <;> rfl) ((HL.out _ hS.2).mono fun e w2 hh => Or.inl ⟨_, hh.1, 1, ⟨rfl, rfl⟩, hS.turn HNO.out hh.2⟩)) ?_
  rintro _ _ ⟨rfl, rfl⟩
  (try simp only [Act.put, List.setIfInBounds_toArray, List.set_cons_zero, List.set_cons_succ])
  refine linp_done (by kernel_rfl) ?_
  intro w' hS
  go_wp2
  go_end0
  exact ⟨rfl, hS.2⟩
set_option maxHeartbeats 4000000 in
theorem do_48_no (h : RunAt E S s W) {y : Nat} (d sr f im : Int) (hf : ∀ W', Below W.heap.size W W' → Calls Try.prog 52 #[.pointer (some ⟨E.R, 0, none⟩), .int .i64 f] W' fun e w' => e = whyE y ∧ Below W'.heap.size W' w') : Calls Try.prog 49 #[.pointer (some ⟨E.R, 0, none⟩), .agg #[.int .i64 48, .int .i64 d, .int .i64 sr, .int .i64 f, .int .i64 im]] W fun e w' => e = whyE y ∧ RunTo E S W s w' := by
  have H := Lib.hid h
  have HX := Lib.hid (Yq.boxS_new W (⟨48, d, sr, f, im⟩ : Y.In) 64)
  have HNO : Hid (¬ Own E S W.heap.size) := Lib.hid (fun hk => by have := h.ownLt hk; omega)
  have HF := Lib.hid hf
  clear h hf
  go_enter Try.func49, Try.ntmps49
  go_upto_region 1 with fail
  generalize W.alloc (.cells #[.int .i64 48, .int .i64 d, .int .i64 sr, .int .i64 f, .int .i64 im] 64) = W1 at HX ⊢
  obtain ⟨c0, c1, c2, c3, c4⟩ := HX.out.cells
  go_upto_region 11 with fail
  clear c0 c1 c2 c3 c4
  refine wp_region_linp (DoS E S s W (⟨48, d, sr, f, im⟩ : Y.In)) (BadE E S s W y) (fun i => i == 6 || i == 7) (fun i => [.pointer (some ⟨E.R, 0, none⟩), .pointer (some ⟨W.heap.size, 1, none⟩), .int .i64 d, .pointer (some ⟨E.R, 0, none⟩), .pointer (some ⟨W.heap.size, 3, none⟩), .int .i64 f, undef, undef].getD i undef) (0) (by kernel_rfl) (by kernel_rfl) (fun ch a' w' hd hb => by
    obtain ⟨he, hb⟩ := hb
    injection he with he
    subst he
    exact ⟨hd, rfl, hb⟩) (DoS.start HX.out) ?_
  refine linp_step (i := 0) (d := some 45) (v := .pointer (some ⟨E.R, 0, none⟩)) rfl rfl (by kernel_rfl) (by kernel_rfl) rfl rfl (ord_value (by kernel_rfl) ?_) ?_
  · (intro s' w' hS; go_simp)
  (try simp only [Act.put, List.setIfInBounds_toArray, List.set_cons_zero, List.set_cons_succ])
  refine linp_step (i := 1) (d := some 46) (v := .pointer (some ⟨W.heap.size, 1, none⟩)) rfl rfl (by kernel_rfl) (by kernel_rfl) rfl rfl (ord_value (by kernel_rfl) ?_) ?_
  · (intro s' w' hS; go_simp)
  (try simp only [Act.put, List.setIfInBounds_toArray, List.set_cons_zero, List.set_cons_succ])
  refine linp_step (i := 2) (d := some 47) (v := .int .i64 d) rfl rfl (by kernel_rfl) (by kernel_rfl) rfl rfl (ord_value (by kernel_rfl) ?_) ?_
  · (intro s' w' hS; (obtain ⟨c0, c1, c2, c3, c4⟩ := hS.cells; go_simp))
  (try simp only [Act.put, List.setIfInBounds_toArray, List.set_cons_zero, List.set_cons_succ])
  refine linp_step (i := 3) (d := some 48) (v := .pointer (some ⟨E.R, 0, none⟩)) rfl rfl (by kernel_rfl) (by kernel_rfl) rfl rfl (ord_value (by kernel_rfl) ?_) ?_
  · (intro s' w' hS; go_simp)
  (try simp only [Act.put, List.setIfInBounds_toArray, List.set_cons_zero, List.set_cons_succ])
  refine linp_step (i := 4) (d := some 49) (v := .pointer (some ⟨W.heap.size, 3, none⟩)) rfl rfl (by kernel_rfl) (by kernel_rfl) rfl rfl (ord_value (by kernel_rfl) ?_) ?_
  · (intro s' w' hS; go_simp)
  (try simp only [Act.put, List.setIfInBounds_toArray, List.set_cons_zero, List.set_cons_succ])
  refine linp_step (i := 5) (d := some 50) (v := .int .i64 f) rfl rfl (by kernel_rfl) (by kernel_rfl) rfl rfl (ord_value (by kernel_rfl) ?_) ?_
  · (intro s' w' hS; (obtain ⟨c0, c1, c2, c3, c4⟩ := hS.cells; go_simp))
  (try simp only [Act.put, List.setIfInBounds_toArray, List.set_cons_zero, List.set_cons_succ])
  refine linp_turnD (i := 6) (d := some 51) [7] (fun u k => u = .int .i64 0 ∧ k = 2) rfl rfl (by kernel_rfl) (by kernel_rfl) rfl (by kernel_rfl) (⟨_, _, rfl, rfl⟩) (by kernel_rfl) (fun w' hS => givesP_call (f := 52) (args := #[.pointer (some ⟨E.R, 0, none⟩), .int .i64 f]) (by go_simp <;> rfl) ((HF.out _ hS.2).mono fun e w2 hh => Or.inr ⟨_, hh.1, rfl, RunTo.self H.out (hS.2.trans (hh.2.mono hS.2.size))⟩)) ?_
  rintro _ _ ⟨rfl, rfl⟩
  (try simp only [Act.put, List.setIfInBounds_toArray, List.set_cons_zero, List.set_cons_succ])
  refine linp_turnD (i := 7) (d := some 52) [] (fun u k => u = .int .i64 0 ∧ k = 2) rfl rfl (by kernel_rfl) (by kernel_rfl) rfl (by kernel_rfl) (⟨_, _, rfl, rfl⟩) (by kernel_rfl) (fun w' hS => hS.2.elim) ?_
  rintro _ _ ⟨rfl, rfl⟩
  (try simp only [Act.put, List.setIfInBounds_toArray, List.set_cons_zero, List.set_cons_succ])
  refine linp_done (by kernel_rfl) ?_
  intro w' hS
  exact hS.2.elim
set_option maxHeartbeats 4000000 in
theorem do_51_ok (h : RunAt E S s W) (v : Int) (d sr f im : Int) (hf : ∀ W', Below W.heap.size W W' → Calls Try.prog 55 #[.pointer (some ⟨E.R, 0, none⟩), .int .i64 f] W' fun e w' => e = .returned (.int .i64 v) ∧ Below W'.heap.size W' w') (hl : ∀ W', Below W.heap.size W W' → Calls Try.prog 51 #[.pointer (some ⟨E.R, 0, none⟩), .int .i64 d, .int .i64 v] W' fun e w' => e = .returned (.tuple #[]) ∧ RunTo E S W' t w') : Calls Try.prog 49 #[.pointer (some ⟨E.R, 0, none⟩), .agg #[.int .i64 51, .int .i64 d, .int .i64 sr, .int .i64 f, .int .i64 im]] W fun e w' => e = .returned (.tuple #[]) ∧ RunTo E S W t w' := by
  have H := Lib.hid h
  have HX := Lib.hid (Yq.boxS_new W (⟨51, d, sr, f, im⟩ : Y.In) 64)
  have HNO : Hid (¬ Own E S W.heap.size) := Lib.hid (fun hk => by have := h.ownLt hk; omega)
  have HF := Lib.hid hf
  have HL := Lib.hid hl
  clear h hf hl
  go_enter Try.func49, Try.ntmps49
  go_upto_region 1 with fail
  generalize W.alloc (.cells #[.int .i64 51, .int .i64 d, .int .i64 sr, .int .i64 f, .int .i64 im] 64) = W1 at HX ⊢
  obtain ⟨c0, c1, c2, c3, c4⟩ := HX.out.cells
  go_upto_region 17 with fail
  clear c0 c1 c2 c3 c4
  refine wp_region_linp (DoS E S t W (⟨51, d, sr, f, im⟩ : Y.In)) (fun _ _ => False) (fun i => i == 6 || i == 7) (fun i => [.pointer (some ⟨E.R, 0, none⟩), .pointer (some ⟨W.heap.size, 1, none⟩), .int .i64 d, .pointer (some ⟨E.R, 0, none⟩), .pointer (some ⟨W.heap.size, 3, none⟩), .int .i64 f, undef, undef].getD i undef) (0) (by kernel_rfl) (by kernel_rfl) (fun _ _ _ _ hf => hf.elim) (DoS.start HX.out) ?_
  refine linp_step (i := 0) (d := some 77) (v := .pointer (some ⟨E.R, 0, none⟩)) rfl rfl (by kernel_rfl) (by kernel_rfl) rfl rfl (ord_value (by kernel_rfl) ?_) ?_
  · (intro s' w' hS; go_simp)
  (try simp only [Act.put, List.setIfInBounds_toArray, List.set_cons_zero, List.set_cons_succ])
  refine linp_step (i := 1) (d := some 78) (v := .pointer (some ⟨W.heap.size, 1, none⟩)) rfl rfl (by kernel_rfl) (by kernel_rfl) rfl rfl (ord_value (by kernel_rfl) ?_) ?_
  · (intro s' w' hS; go_simp)
  (try simp only [Act.put, List.setIfInBounds_toArray, List.set_cons_zero, List.set_cons_succ])
  refine linp_step (i := 2) (d := some 79) (v := .int .i64 d) rfl rfl (by kernel_rfl) (by kernel_rfl) rfl rfl (ord_value (by kernel_rfl) ?_) ?_
  · (intro s' w' hS; (obtain ⟨c0, c1, c2, c3, c4⟩ := hS.cells; go_simp))
  (try simp only [Act.put, List.setIfInBounds_toArray, List.set_cons_zero, List.set_cons_succ])
  refine linp_step (i := 3) (d := some 80) (v := .pointer (some ⟨E.R, 0, none⟩)) rfl rfl (by kernel_rfl) (by kernel_rfl) rfl rfl (ord_value (by kernel_rfl) ?_) ?_
  · (intro s' w' hS; go_simp)
  (try simp only [Act.put, List.setIfInBounds_toArray, List.set_cons_zero, List.set_cons_succ])
  refine linp_step (i := 4) (d := some 81) (v := .pointer (some ⟨W.heap.size, 3, none⟩)) rfl rfl (by kernel_rfl) (by kernel_rfl) rfl rfl (ord_value (by kernel_rfl) ?_) ?_
  · (intro s' w' hS; go_simp)
  (try simp only [Act.put, List.setIfInBounds_toArray, List.set_cons_zero, List.set_cons_succ])
  refine linp_step (i := 5) (d := some 82) (v := .int .i64 f) rfl rfl (by kernel_rfl) (by kernel_rfl) rfl rfl (ord_value (by kernel_rfl) ?_) ?_
  · (intro s' w' hS; (obtain ⟨c0, c1, c2, c3, c4⟩ := hS.cells; go_simp))
  (try simp only [Act.put, List.setIfInBounds_toArray, List.set_cons_zero, List.set_cons_succ])
  refine linp_turnD (i := 6) (d := some 83) [7] (fun u k => u = .int .i64 v ∧ k = 0) rfl rfl (by kernel_rfl) (by kernel_rfl) rfl (by kernel_rfl) (⟨_, _, rfl, rfl⟩) (by kernel_rfl) (fun w' hS => givesP_call (f := 55) (args := #[.pointer (some ⟨E.R, 0, none⟩), .int .i64 f]) (by go_simp <;> rfl) ((HF.out _ hS.2).mono fun e w2 hh => Or.inl ⟨_, hh.1, 0, ⟨rfl, rfl⟩, hS.read hh.2⟩)) ?_
  rintro _ _ ⟨rfl, rfl⟩
  (try simp only [Act.put, List.setIfInBounds_toArray, List.set_cons_zero, List.set_cons_succ])
  refine linp_turnD (i := 7) (d := some 84) [] (fun u k => u = .tuple #[] ∧ k = 1) rfl rfl (by kernel_rfl) (by kernel_rfl) rfl (by kernel_rfl) (⟨_, _, rfl, rfl⟩) (by kernel_rfl) (fun w' hS => givesP_call (f := 51) (args := #[.pointer (some ⟨E.R, 0, none⟩), .int .i64 d, .int .i64 v]) (by go_simp <;> rfl) ((HL.out _ hS.2).mono fun e w2 hh => Or.inl ⟨_, hh.1, 1, ⟨rfl, rfl⟩, hS.turn HNO.out hh.2⟩)) ?_
  rintro _ _ ⟨rfl, rfl⟩
  (try simp only [Act.put, List.setIfInBounds_toArray, List.set_cons_zero, List.set_cons_succ])
  refine linp_done (by kernel_rfl) ?_
  intro w' hS
  go_wp2
  go_end0
  exact ⟨rfl, hS.2⟩
set_option maxHeartbeats 4000000 in
theorem do_51_no (h : RunAt E S s W) {y : Nat} (d sr f im : Int) (hf : ∀ W', Below W.heap.size W W' → Calls Try.prog 55 #[.pointer (some ⟨E.R, 0, none⟩), .int .i64 f] W' fun e w' => e = whyE y ∧ Below W'.heap.size W' w') : Calls Try.prog 49 #[.pointer (some ⟨E.R, 0, none⟩), .agg #[.int .i64 51, .int .i64 d, .int .i64 sr, .int .i64 f, .int .i64 im]] W fun e w' => e = whyE y ∧ RunTo E S W s w' := by
  have H := Lib.hid h
  have HX := Lib.hid (Yq.boxS_new W (⟨51, d, sr, f, im⟩ : Y.In) 64)
  have HNO : Hid (¬ Own E S W.heap.size) := Lib.hid (fun hk => by have := h.ownLt hk; omega)
  have HF := Lib.hid hf
  clear h hf
  go_enter Try.func49, Try.ntmps49
  go_upto_region 1 with fail
  generalize W.alloc (.cells #[.int .i64 51, .int .i64 d, .int .i64 sr, .int .i64 f, .int .i64 im] 64) = W1 at HX ⊢
  obtain ⟨c0, c1, c2, c3, c4⟩ := HX.out.cells
  go_upto_region 17 with fail
  clear c0 c1 c2 c3 c4
  refine wp_region_linp (DoS E S s W (⟨51, d, sr, f, im⟩ : Y.In)) (BadE E S s W y) (fun i => i == 6 || i == 7) (fun i => [.pointer (some ⟨E.R, 0, none⟩), .pointer (some ⟨W.heap.size, 1, none⟩), .int .i64 d, .pointer (some ⟨E.R, 0, none⟩), .pointer (some ⟨W.heap.size, 3, none⟩), .int .i64 f, undef, undef].getD i undef) (0) (by kernel_rfl) (by kernel_rfl) (fun ch a' w' hd hb => by
    obtain ⟨he, hb⟩ := hb
    injection he with he
    subst he
    exact ⟨hd, rfl, hb⟩) (DoS.start HX.out) ?_
  refine linp_step (i := 0) (d := some 77) (v := .pointer (some ⟨E.R, 0, none⟩)) rfl rfl (by kernel_rfl) (by kernel_rfl) rfl rfl (ord_value (by kernel_rfl) ?_) ?_
  · (intro s' w' hS; go_simp)
  (try simp only [Act.put, List.setIfInBounds_toArray, List.set_cons_zero, List.set_cons_succ])
  refine linp_step (i := 1) (d := some 78) (v := .pointer (some ⟨W.heap.size, 1, none⟩)) rfl rfl (by kernel_rfl) (by kernel_rfl) rfl rfl (ord_value (by kernel_rfl) ?_) ?_
  · (intro s' w' hS; go_simp)
  (try simp only [Act.put, List.setIfInBounds_toArray, List.set_cons_zero, List.set_cons_succ])
  refine linp_step (i := 2) (d := some 79) (v := .int .i64 d) rfl rfl (by kernel_rfl) (by kernel_rfl) rfl rfl (ord_value (by kernel_rfl) ?_) ?_
  · (intro s' w' hS; (obtain ⟨c0, c1, c2, c3, c4⟩ := hS.cells; go_simp))
  (try simp only [Act.put, List.setIfInBounds_toArray, List.set_cons_zero, List.set_cons_succ])
  refine linp_step (i := 3) (d := some 80) (v := .pointer (some ⟨E.R, 0, none⟩)) rfl rfl (by kernel_rfl) (by kernel_rfl) rfl rfl (ord_value (by kernel_rfl) ?_) ?_
  · (intro s' w' hS; go_simp)
  (try simp only [Act.put, List.setIfInBounds_toArray, List.set_cons_zero, List.set_cons_succ])
  refine linp_step (i := 4) (d := some 81) (v := .pointer (some ⟨W.heap.size, 3, none⟩)) rfl rfl (by kernel_rfl) (by kernel_rfl) rfl rfl (ord_value (by kernel_rfl) ?_) ?_
  · (intro s' w' hS; go_simp)
  (try simp only [Act.put, List.setIfInBounds_toArray, List.set_cons_zero, List.set_cons_succ])
  refine linp_step (i := 5) (d := some 82) (v := .int .i64 f) rfl rfl (by kernel_rfl) (by kernel_rfl) rfl rfl (ord_value (by kernel_rfl) ?_) ?_
  · (intro s' w' hS; (obtain ⟨c0, c1, c2, c3, c4⟩ := hS.cells; go_simp))
  (try simp only [Act.put, List.setIfInBounds_toArray, List.set_cons_zero, List.set_cons_succ])
  refine linp_turnD (i := 6) (d := some 83) [7] (fun u k => u = .int .i64 0 ∧ k = 2) rfl rfl (by kernel_rfl) (by kernel_rfl) rfl (by kernel_rfl) (⟨_, _, rfl, rfl⟩) (by kernel_rfl) (fun w' hS => givesP_call (f := 55) (args := #[.pointer (some ⟨E.R, 0, none⟩), .int .i64 f]) (by go_simp <;> rfl) ((HF.out _ hS.2).mono fun e w2 hh => Or.inr ⟨_, hh.1, rfl, RunTo.self H.out (hS.2.trans (hh.2.mono hS.2.size))⟩)) ?_
  rintro _ _ ⟨rfl, rfl⟩
  (try simp only [Act.put, List.setIfInBounds_toArray, List.set_cons_zero, List.set_cons_succ])
  refine linp_turnD (i := 7) (d := some 84) [] (fun u k => u = .int .i64 0 ∧ k = 2) rfl rfl (by kernel_rfl) (by kernel_rfl) rfl (by kernel_rfl) (⟨_, _, rfl, rfl⟩) (by kernel_rfl) (fun w' hS => hS.2.elim) ?_
  rintro _ _ ⟨rfl, rfl⟩
  (try simp only [Act.put, List.setIfInBounds_toArray, List.set_cons_zero, List.set_cons_succ])
  refine linp_done (by kernel_rfl) ?_
  intro w' hS
  exact hS.2.elim
set_option maxHeartbeats 4000000 in
theorem do_50_ok (h : RunAt E S s W) (n v : Int) (d sr f im : Int) (hn : ∀ W', Below W.heap.size W W' → Calls Try.prog 53 #[.pointer (some ⟨E.R, 0, none⟩), .int .i64 sr] W' fun e w' => e = .returned (.int .i64 n) ∧ Below W'.heap.size W' w') (hf : ∀ W', Below W.heap.size W W' → Calls Try.prog 52 #[.pointer (some ⟨E.R, 0, none⟩), .int .i64 n] W' fun e w' => e = .returned (.int .i64 v) ∧ Below W'.heap.size W' w') (hl : ∀ W', Below W.heap.size W W' → Calls Try.prog 51 #[.pointer (some ⟨E.R, 0, none⟩), .int .i64 d, .int .i64 v] W' fun e w' => e = .returned (.tuple #[]) ∧ RunTo E S W' t w') : Calls Try.prog 49 #[.pointer (some ⟨E.R, 0, none⟩), .agg #[.int .i64 50, .int .i64 d, .int .i64 sr, .int .i64 f, .int .i64 im]] W fun e w' => e = .returned (.tuple #[]) ∧ RunTo E S W t w' := by
  have H := Lib.hid h
  have HX := Lib.hid (Yq.boxS_new W (⟨50, d, sr, f, im⟩ : Y.In) 64)
  have HNO : Hid (¬ Own E S W.heap.size) := Lib.hid (fun hk => by have := h.ownLt hk; omega)
  have HN := Lib.hid hn
  have HF := Lib.hid hf
  have HL := Lib.hid hl
  clear h hn hf hl
  go_enter Try.func49, Try.ntmps49
  go_upto_region 1 with fail
  generalize W.alloc (.cells #[.int .i64 50, .int .i64 d, .int .i64 sr, .int .i64 f, .int .i64 im] 64) = W1 at HX ⊢
  obtain ⟨c0, c1, c2, c3, c4⟩ := HX.out.cells
  go_upto_region 13 with fail
  clear c0 c1 c2 c3 c4
  refine wp_region_linp (DoS E S t W (⟨50, d, sr, f, im⟩ : Y.In)) (fun _ _ => False) (fun i => i == 7 || i == 8 || i == 9) (fun i => [.pointer (some ⟨E.R, 0, none⟩), .pointer (some ⟨W.heap.size, 1, none⟩), .int .i64 d, .pointer (some ⟨E.R, 0, none⟩), .pointer (some ⟨E.R, 0, none⟩), .pointer (some ⟨W.heap.size, 2, none⟩), .int .i64 sr, undef, undef, undef].getD i undef) (0) (by kernel_rfl) (by kernel_rfl) (fun _ _ _ _ hf => hf.elim) (DoS.start HX.out) ?_
  refine linp_step (i := 0) (d := some 55) (v := .pointer (some ⟨E.R, 0, none⟩)) rfl rfl (by kernel_rfl) (by kernel_rfl) rfl rfl (ord_value (by kernel_rfl) ?_) ?_
  · (intro s' w' hS; go_simp)
  (try simp only [Act.put, List.setIfInBounds_toArray, List.set_cons_zero, List.set_cons_succ])
  refine linp_step (i := 1) (d := some 56) (v := .pointer (some ⟨W.heap.size, 1, none⟩)) rfl rfl (by kernel_rfl) (by kernel_rfl) rfl rfl (ord_value (by kernel_rfl) ?_) ?_
  · (intro s' w' hS; go_simp)
  (try simp only [Act.put, List.setIfInBounds_toArray, List.set_cons_zero, List.set_cons_succ])
  refine linp_step (i := 2) (d := some 57) (v := .int .i64 d) rfl rfl (by kernel_rfl) (by kernel_rfl) rfl rfl (ord_value (by kernel_rfl) ?_) ?_
  · (intro s' w' hS; (obtain ⟨c0, c1, c2, c3, c4⟩ := hS.cells; go_simp))
  (try simp only [Act.put, List.setIfInBounds_toArray, List.set_cons_zero, List.set_cons_succ])
  refine linp_step (i := 3) (d := some 58) (v := .pointer (some ⟨E.R, 0, none⟩)) rfl rfl (by kernel_rfl) (by kernel_rfl) rfl rfl (ord_value (by kernel_rfl) ?_) ?_
  · (intro s' w' hS; go_simp)
  (try simp only [Act.put, List.setIfInBounds_toArray, List.set_cons_zero, List.set_cons_succ])
  refine linp_step (i := 4) (d := some 59) (v := .pointer (some ⟨E.R, 0, none⟩)) rfl rfl (by kernel_rfl) (by kernel_rfl) rfl rfl (ord_value (by kernel_rfl) ?_) ?_
  · (intro s' w' hS; go_simp)
  (try simp only [Act.put, List.setIfInBounds_toArray, List.set_cons_zero, List.set_cons_succ])
  refine linp_step (i := 5) (d := some 60) (v := .pointer (some ⟨W.heap.size, 2, none⟩)) rfl rfl (by kernel_rfl) (by kernel_rfl) rfl rfl (ord_value (by kernel_rfl) ?_) ?_
  · (intro s' w' hS; go_simp)
  (try simp only [Act.put, List.setIfInBounds_toArray, List.set_cons_zero, List.set_cons_succ])
  refine linp_step (i := 6) (d := some 61) (v := .int .i64 sr) rfl rfl (by kernel_rfl) (by kernel_rfl) rfl rfl (ord_value (by kernel_rfl) ?_) ?_
  · (intro s' w' hS; (obtain ⟨c0, c1, c2, c3, c4⟩ := hS.cells; go_simp))
  (try simp only [Act.put, List.setIfInBounds_toArray, List.set_cons_zero, List.set_cons_succ])
  refine linp_turnD (i := 7) (d := some 62) [8, 9] (fun u k => u = .int .i64 n ∧ k = 0) rfl rfl (by kernel_rfl) (by kernel_rfl) rfl (by kernel_rfl) (⟨_, _, rfl, rfl⟩) (by kernel_rfl) (fun w' hS => givesP_call (f := 53) (args := #[.pointer (some ⟨E.R, 0, none⟩), .int .i64 sr]) (by go_simp <;> rfl) ((HN.out _ hS.2).mono fun e w2 hh => Or.inl ⟨_, hh.1, 0, ⟨rfl, rfl⟩, hS.read hh.2⟩)) ?_
  rintro _ _ ⟨rfl, rfl⟩
  (try simp only [Act.put, List.setIfInBounds_toArray, List.set_cons_zero, List.set_cons_succ])
  refine linp_turnD (i := 8) (d := some 63) [9] (fun u k => u = .int .i64 v ∧ k = 0) rfl rfl (by kernel_rfl) (by kernel_rfl) rfl (by kernel_rfl) (⟨_, _, rfl, rfl⟩) (by kernel_rfl) (fun w' hS => givesP_call (f := 52) (args := #[.pointer (some ⟨E.R, 0, none⟩), .int .i64 n]) (by go_simp <;> rfl) ((HF.out _ hS.2).mono fun e w2 hh => Or.inl ⟨_, hh.1, 0, ⟨rfl, rfl⟩, hS.read hh.2⟩)) ?_
  rintro _ _ ⟨rfl, rfl⟩
  (try simp only [Act.put, List.setIfInBounds_toArray, List.set_cons_zero, List.set_cons_succ])
  refine linp_turnD (i := 9) (d := some 64) [] (fun u k => u = .tuple #[] ∧ k = 1) rfl rfl (by kernel_rfl) (by kernel_rfl) rfl (by kernel_rfl) (⟨_, _, rfl, rfl⟩) (by kernel_rfl) (fun w' hS => givesP_call (f := 51) (args := #[.pointer (some ⟨E.R, 0, none⟩), .int .i64 d, .int .i64 v]) (by go_simp <;> rfl) ((HL.out _ hS.2).mono fun e w2 hh => Or.inl ⟨_, hh.1, 1, ⟨rfl, rfl⟩, hS.turn HNO.out hh.2⟩)) ?_
  rintro _ _ ⟨rfl, rfl⟩
  (try simp only [Act.put, List.setIfInBounds_toArray, List.set_cons_zero, List.set_cons_succ])
  refine linp_done (by kernel_rfl) ?_
  intro w' hS
  go_wp2
  go_end0
  exact ⟨rfl, hS.2⟩
set_option maxHeartbeats 4000000 in
theorem do_50_no (h : RunAt E S s W) {y : Nat} (n : Int) (d sr f im : Int) (hn : ∀ W', Below W.heap.size W W' → Calls Try.prog 53 #[.pointer (some ⟨E.R, 0, none⟩), .int .i64 sr] W' fun e w' => e = .returned (.int .i64 n) ∧ Below W'.heap.size W' w') (hf : ∀ W', Below W.heap.size W W' → Calls Try.prog 52 #[.pointer (some ⟨E.R, 0, none⟩), .int .i64 n] W' fun e w' => e = whyE y ∧ Below W'.heap.size W' w') : Calls Try.prog 49 #[.pointer (some ⟨E.R, 0, none⟩), .agg #[.int .i64 50, .int .i64 d, .int .i64 sr, .int .i64 f, .int .i64 im]] W fun e w' => e = whyE y ∧ RunTo E S W s w' := by
  have H := Lib.hid h
  have HX := Lib.hid (Yq.boxS_new W (⟨50, d, sr, f, im⟩ : Y.In) 64)
  have HNO : Hid (¬ Own E S W.heap.size) := Lib.hid (fun hk => by have := h.ownLt hk; omega)
  have HN := Lib.hid hn
  have HF := Lib.hid hf
  clear h hn hf
  go_enter Try.func49, Try.ntmps49
  go_upto_region 1 with fail
  generalize W.alloc (.cells #[.int .i64 50, .int .i64 d, .int .i64 sr, .int .i64 f, .int .i64 im] 64) = W1 at HX ⊢
  obtain ⟨c0, c1, c2, c3, c4⟩ := HX.out.cells
  go_upto_region 13 with fail
  clear c0 c1 c2 c3 c4
  refine wp_region_linp (DoS E S s W (⟨50, d, sr, f, im⟩ : Y.In)) (BadE E S s W y) (fun i => i == 7 || i == 8 || i == 9) (fun i => [.pointer (some ⟨E.R, 0, none⟩), .pointer (some ⟨W.heap.size, 1, none⟩), .int .i64 d, .pointer (some ⟨E.R, 0, none⟩), .pointer (some ⟨E.R, 0, none⟩), .pointer (some ⟨W.heap.size, 2, none⟩), .int .i64 sr, undef, undef, undef].getD i undef) (0) (by kernel_rfl) (by kernel_rfl) (fun ch a' w' hd hb => by
    obtain ⟨he, hb⟩ := hb
    injection he with he
    subst he
    exact ⟨hd, rfl, hb⟩) (DoS.start HX.out) ?_
  refine linp_step (i := 0) (d := some 55) (v := .pointer (some ⟨E.R, 0, none⟩)) rfl rfl (by kernel_rfl) (by kernel_rfl) rfl rfl (ord_value (by kernel_rfl) ?_) ?_
  · (intro s' w' hS; go_simp)
  (try simp only [Act.put, List.setIfInBounds_toArray, List.set_cons_zero, List.set_cons_succ])
  refine linp_step (i := 1) (d := some 56) (v := .pointer (some ⟨W.heap.size, 1, none⟩)) rfl rfl (by kernel_rfl) (by kernel_rfl) rfl rfl (ord_value (by kernel_rfl) ?_) ?_
  · (intro s' w' hS; go_simp)
  (try simp only [Act.put, List.setIfInBounds_toArray, List.set_cons_zero, List.set_cons_succ])
  refine linp_step (i := 2) (d := some 57) (v := .int .i64 d) rfl rfl (by kernel_rfl) (by kernel_rfl) rfl rfl (ord_value (by kernel_rfl) ?_) ?_
  · (intro s' w' hS; (obtain ⟨c0, c1, c2, c3, c4⟩ := hS.cells; go_simp))
  (try simp only [Act.put, List.setIfInBounds_toArray, List.set_cons_zero, List.set_cons_succ])
  refine linp_step (i := 3) (d := some 58) (v := .pointer (some ⟨E.R, 0, none⟩)) rfl rfl (by kernel_rfl) (by kernel_rfl) rfl rfl (ord_value (by kernel_rfl) ?_) ?_
  · (intro s' w' hS; go_simp)
  (try simp only [Act.put, List.setIfInBounds_toArray, List.set_cons_zero, List.set_cons_succ])
  refine linp_step (i := 4) (d := some 59) (v := .pointer (some ⟨E.R, 0, none⟩)) rfl rfl (by kernel_rfl) (by kernel_rfl) rfl rfl (ord_value (by kernel_rfl) ?_) ?_
  · (intro s' w' hS; go_simp)
  (try simp only [Act.put, List.setIfInBounds_toArray, List.set_cons_zero, List.set_cons_succ])
  refine linp_step (i := 5) (d := some 60) (v := .pointer (some ⟨W.heap.size, 2, none⟩)) rfl rfl (by kernel_rfl) (by kernel_rfl) rfl rfl (ord_value (by kernel_rfl) ?_) ?_
  · (intro s' w' hS; go_simp)
  (try simp only [Act.put, List.setIfInBounds_toArray, List.set_cons_zero, List.set_cons_succ])
  refine linp_step (i := 6) (d := some 61) (v := .int .i64 sr) rfl rfl (by kernel_rfl) (by kernel_rfl) rfl rfl (ord_value (by kernel_rfl) ?_) ?_
  · (intro s' w' hS; (obtain ⟨c0, c1, c2, c3, c4⟩ := hS.cells; go_simp))
  (try simp only [Act.put, List.setIfInBounds_toArray, List.set_cons_zero, List.set_cons_succ])
  refine linp_turnD (i := 7) (d := some 62) [8, 9] (fun u k => u = .int .i64 n ∧ k = 0) rfl rfl (by kernel_rfl) (by kernel_rfl) rfl (by kernel_rfl) (⟨_, _, rfl, rfl⟩) (by kernel_rfl) (fun w' hS => givesP_call (f := 53) (args := #[.pointer (some ⟨E.R, 0, none⟩), .int .i64 sr]) (by go_simp <;> rfl) ((HN.out _ hS.2).mono fun e w2 hh => Or.inl ⟨_, hh.1, 0, ⟨rfl, rfl⟩, hS.read hh.2⟩)) ?_
  rintro _ _ ⟨rfl, rfl⟩
  (try simp only [Act.put, List.setIfInBounds_toArray, List.set_cons_zero, List.set_cons_succ])
  refine linp_turnD (i := 8) (d := some 63) [9] (fun u k => u = .int .i64 0 ∧ k = 2) rfl rfl (by kernel_rfl) (by kernel_rfl) rfl (by kernel_rfl) (⟨_, _, rfl, rfl⟩) (by kernel_rfl) (fun w' hS => givesP_call (f := 52) (args := #[.pointer (some ⟨E.R, 0, none⟩), .int .i64 n]) (by go_simp <;> rfl) ((HF.out _ hS.2).mono fun e w2 hh => Or.inr ⟨_, hh.1, rfl, RunTo.self H.out (hS.2.trans (hh.2.mono hS.2.size))⟩)) ?_
  rintro _ _ ⟨rfl, rfl⟩
  (try simp only [Act.put, List.setIfInBounds_toArray, List.set_cons_zero, List.set_cons_succ])
  refine linp_turnD (i := 9) (d := some 64) [] (fun u k => u = .int .i64 0 ∧ k = 2) rfl rfl (by kernel_rfl) (by kernel_rfl) rfl (by kernel_rfl) (⟨_, _, rfl, rfl⟩) (by kernel_rfl) (fun w' hS => hS.2.elim) ?_
  rintro _ _ ⟨rfl, rfl⟩
  (try simp only [Act.put, List.setIfInBounds_toArray, List.set_cons_zero, List.set_cons_succ])
  refine linp_done (by kernel_rfl) ?_
  intro w' hS
  exact hS.2.elim
set_option maxHeartbeats 4000000 in
theorem do_50_num (h : RunAt E S s W) {y : Nat} (d sr f im : Int) (hn : ∀ W', Below W.heap.size W W' → Calls Try.prog 53 #[.pointer (some ⟨E.R, 0, none⟩), .int .i64 sr] W' fun e w' => e = whyE y ∧ Below W'.heap.size W' w') : Calls Try.prog 49 #[.pointer (some ⟨E.R, 0, none⟩), .agg #[.int .i64 50, .int .i64 d, .int .i64 sr, .int .i64 f, .int .i64 im]] W fun e w' => e = whyE y ∧ RunTo E S W s w' := by
  have H := Lib.hid h
  have HX := Lib.hid (Yq.boxS_new W (⟨50, d, sr, f, im⟩ : Y.In) 64)
  have HNO : Hid (¬ Own E S W.heap.size) := Lib.hid (fun hk => by have := h.ownLt hk; omega)
  have HN := Lib.hid hn
  clear h hn
  go_enter Try.func49, Try.ntmps49
  go_upto_region 1 with fail
  generalize W.alloc (.cells #[.int .i64 50, .int .i64 d, .int .i64 sr, .int .i64 f, .int .i64 im] 64) = W1 at HX ⊢
  obtain ⟨c0, c1, c2, c3, c4⟩ := HX.out.cells
  go_upto_region 13 with fail
  clear c0 c1 c2 c3 c4
  refine wp_region_linp (DoS E S s W (⟨50, d, sr, f, im⟩ : Y.In)) (BadE E S s W y) (fun i => i == 7 || i == 8 || i == 9) (fun i => [.pointer (some ⟨E.R, 0, none⟩), .pointer (some ⟨W.heap.size, 1, none⟩), .int .i64 d, .pointer (some ⟨E.R, 0, none⟩), .pointer (some ⟨E.R, 0, none⟩), .pointer (some ⟨W.heap.size, 2, none⟩), .int .i64 sr, undef, undef, undef].getD i undef) (0) (by kernel_rfl) (by kernel_rfl) (fun ch a' w' hd hb => by
    obtain ⟨he, hb⟩ := hb
    injection he with he
    subst he
    exact ⟨hd, rfl, hb⟩) (DoS.start HX.out) ?_
  refine linp_step (i := 0) (d := some 55) (v := .pointer (some ⟨E.R, 0, none⟩)) rfl rfl (by kernel_rfl) (by kernel_rfl) rfl rfl (ord_value (by kernel_rfl) ?_) ?_
  · (intro s' w' hS; go_simp)
  (try simp only [Act.put, List.setIfInBounds_toArray, List.set_cons_zero, List.set_cons_succ])
  refine linp_step (i := 1) (d := some 56) (v := .pointer (some ⟨W.heap.size, 1, none⟩)) rfl rfl (by kernel_rfl) (by kernel_rfl) rfl rfl (ord_value (by kernel_rfl) ?_) ?_
  · (intro s' w' hS; go_simp)
  (try simp only [Act.put, List.setIfInBounds_toArray, List.set_cons_zero, List.set_cons_succ])
  refine linp_step (i := 2) (d := some 57) (v := .int .i64 d) rfl rfl (by kernel_rfl) (by kernel_rfl) rfl rfl (ord_value (by kernel_rfl) ?_) ?_
  · (intro s' w' hS; (obtain ⟨c0, c1, c2, c3, c4⟩ := hS.cells; go_simp))
  (try simp only [Act.put, List.setIfInBounds_toArray, List.set_cons_zero, List.set_cons_succ])
  refine linp_step (i := 3) (d := some 58) (v := .pointer (some ⟨E.R, 0, none⟩)) rfl rfl (by kernel_rfl) (by kernel_rfl) rfl rfl (ord_value (by kernel_rfl) ?_) ?_
  · (intro s' w' hS; go_simp)
  (try simp only [Act.put, List.setIfInBounds_toArray, List.set_cons_zero, List.set_cons_succ])
  refine linp_step (i := 4) (d := some 59) (v := .pointer (some ⟨E.R, 0, none⟩)) rfl rfl (by kernel_rfl) (by kernel_rfl) rfl rfl (ord_value (by kernel_rfl) ?_) ?_
  · (intro s' w' hS; go_simp)
  (try simp only [Act.put, List.setIfInBounds_toArray, List.set_cons_zero, List.set_cons_succ])
  refine linp_step (i := 5) (d := some 60) (v := .pointer (some ⟨W.heap.size, 2, none⟩)) rfl rfl (by kernel_rfl) (by kernel_rfl) rfl rfl (ord_value (by kernel_rfl) ?_) ?_
  · (intro s' w' hS; go_simp)
  (try simp only [Act.put, List.setIfInBounds_toArray, List.set_cons_zero, List.set_cons_succ])
  refine linp_step (i := 6) (d := some 61) (v := .int .i64 sr) rfl rfl (by kernel_rfl) (by kernel_rfl) rfl rfl (ord_value (by kernel_rfl) ?_) ?_
  · (intro s' w' hS; (obtain ⟨c0, c1, c2, c3, c4⟩ := hS.cells; go_simp))
  (try simp only [Act.put, List.setIfInBounds_toArray, List.set_cons_zero, List.set_cons_succ])
  refine linp_turnD (i := 7) (d := some 62) [8, 9] (fun u k => u = .int .i64 0 ∧ k = 2) rfl rfl (by kernel_rfl) (by kernel_rfl) rfl (by kernel_rfl) (⟨_, _, rfl, rfl⟩) (by kernel_rfl) (fun w' hS => givesP_call (f := 53) (args := #[.pointer (some ⟨E.R, 0, none⟩), .int .i64 sr]) (by go_simp <;> rfl) ((HN.out _ hS.2).mono fun e w2 hh => Or.inr ⟨_, hh.1, rfl, RunTo.self H.out (hS.2.trans (hh.2.mono hS.2.size))⟩)) ?_
  rintro _ _ ⟨rfl, rfl⟩
  (try simp only [Act.put, List.setIfInBounds_toArray, List.set_cons_zero, List.set_cons_succ])
  refine linp_turnD (i := 8) (d := some 63) [9] (fun u k => u = .int .i64 0 ∧ k = 2) rfl rfl (by kernel_rfl) (by kernel_rfl) rfl (by kernel_rfl) (⟨_, _, rfl, rfl⟩) (by kernel_rfl) (fun w' hS => hS.2.elim) ?_
  rintro _ _ ⟨rfl, rfl⟩
  (try simp only [Act.put, List.setIfInBounds_toArray, List.set_cons_zero, List.set_cons_succ])
  refine linp_turnD (i := 9) (d := some 64) [] (fun u k => u = .int .i64 0 ∧ k = 2) rfl rfl (by kernel_rfl) (by kernel_rfl) rfl (by kernel_rfl) (⟨_, _, rfl, rfl⟩) (by kernel_rfl) (fun w' hS => hS.2.elim) ?_
  rintro _ _ ⟨rfl, rfl⟩
  (try simp only [Act.put, List.setIfInBounds_toArray, List.set_cons_zero, List.set_cons_succ])
  refine linp_done (by kernel_rfl) ?_
  intro w' hS
  exact hS.2.elim
end
end Go.Proofs.Ythngbakbiocadaa
