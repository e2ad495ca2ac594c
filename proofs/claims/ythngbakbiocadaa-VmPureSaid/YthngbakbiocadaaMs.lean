/-
  What an instruction does: fields and words stored.
-/
import Derived.Test.YthngbakbiocadaaMr

namespace Go.Proofs.Ythngbakbiocadaa
set_option maxRecDepth 100000
open Go.ChangeShapes Go.WideShapes Go.ChangeAt Go.RowKit Go.Maps
open V
section
variable {E : Ev} {S : Nat → Prop} {s t : V.St} {W : World}
set_option maxHeartbeats 4000000 in
theorem do_53_ok (h : RunAt E S s W) (n v : Int) (d sr f im : Int) (hn : ∀ W', Below W.heap.size W W' → Calls Try.prog 53 #[.pointer (some ⟨E.R, 0, none⟩), .int .i64 sr] W' fun e w' => e = .returned (.int .i64 n) ∧ Below W'.heap.size W' w') (hf : ∀ W', Below W.heap.size W W' → Calls Try.prog 55 #[.pointer (some ⟨E.R, 0, none⟩), .int .i64 n] W' fun e w' => e = .returned (.int .i64 v) ∧ Below W'.heap.size W' w') (hl : ∀ W', Below W.heap.size W W' → Calls Try.prog 51 #[.pointer (some ⟨E.R, 0, none⟩), .int .i64 d, .int .i64 v] W' fun e w' => e = .returned (.tuple #[]) ∧ RunTo E S W' t w') : Calls Try.prog 49 #[.pointer (some ⟨E.R, 0, none⟩), .agg #[.int .i64 53, .int .i64 d, .int .i64 sr, .int .i64 f, .int .i64 im]] W fun e w' => e = .returned (.tuple #[]) ∧ RunTo E S W t w' := by
  have H := Lib.hid h
  have HX := Lib.hid (Yq.boxS_new W (⟨53, d, sr, f, im⟩ : Y.In) 64)
  have HNO : Hid (¬ Own E S W.heap.size) := Lib.hid (fun hk => by have := h.ownLt hk; omega)
  have HN := Lib.hid hn
  have HF := Lib.hid hf
  have HL := Lib.hid hl
  clear h hn hf hl
  go_enter Try.func49, Try.ntmps49
  go_upto_region 1 with fail
  generalize W.alloc (.cells #[.int .i64 53, .int .i64 d, .int .i64 sr, .int .i64 f, .int .i64 im] 64) = W1 at HX ⊢
  obtain ⟨c0, c1, c2, c3, c4⟩ := HX.out.cells
  go_upto_region 19 with fail
  clear c0 c1 c2 c3 c4
  refine wp_region_linp (DoS E S t W (⟨53, d, sr, f, im⟩ : Y.In)) (fun _ _ => False) (fun i => i == 7 || i == 8 || i == 9) (fun i => [.pointer (some ⟨E.R, 0, none⟩), .pointer (some ⟨W.heap.size, 1, none⟩), .int .i64 d, .pointer (some ⟨E.R, 0, none⟩), .pointer (some ⟨E.R, 0, none⟩), .pointer (some ⟨W.heap.size, 2, none⟩), .int .i64 sr, undef, undef, undef].getD i undef) (0) (by kernel_rfl) (by kernel_rfl) (fun _ _ _ _ hf => hf.elim) (DoS.start HX.out) ?_
  refine linp_step (i := 0) (d := some 87) (v := .pointer (some ⟨E.R, 0, none⟩)) rfl rfl (by kernel_rfl) (by kernel_rfl) rfl rfl (ord_value (by kernel_rfl) ?_) ?_
  · (intro s' w' hS; go_simp)
  (try simp only [Act.put, List.setIfInBounds_toArray, List.set_cons_zero, List.set_cons_succ])
  refine linp_step (i := 1) (d := some 88) (v := .pointer (some ⟨W.heap.size, 1, none⟩)) rfl rfl (by kernel_rfl) (by kernel_rfl) rfl rfl (ord_value (by kernel_rfl) ?_) ?_
  · (intro s' w' hS; go_simp)
  (try simp only [Act.put, List.setIfInBounds_toArray, List.set_cons_zero, List.set_cons_succ])
  refine linp_step (i := 2) (d := some 89) (v := .int .i64 d) rfl rfl (by kernel_rfl) (by kernel_rfl) rfl rfl (ord_value (by kernel_rfl) ?_) ?_
  · (intro s' w' hS; (obtain ⟨c0, c1, c2, c3, c4⟩ := hS.cells; go_simp))
  (try simp only [Act.put, List.setIfInBounds_toArray, List.set_cons_zero, List.set_cons_succ])
  refine linp_step (i := 3) (d := some 90) (v := .pointer (some ⟨E.R, 0, none⟩)) rfl rfl (by kernel_rfl) (by kernel_rfl) rfl rfl (ord_value (by kernel_rfl) ?_) ?_
  · (intro s' w' hS; go_simp)
  (try simp only [Act.put, List.setIfInBounds_toArray, List.set_cons_zero, List.set_cons_succ])
  refine linp_step (i := 4) (d := some 91) (v := .pointer (some ⟨E.R, 0, none⟩)) rfl rfl (by kernel_rfl) (by kernel_rfl) rfl rfl (ord_value (by kernel_rfl) ?_) ?_
  · (intro s' w' hS; go_simp)
  (try simp only [Act.put, List.setIfInBounds_toArray, List.set_cons_zero, List.set_cons_succ])
  refine linp_step (i := 5) (d := some 92) (v := .pointer (some ⟨W.heap.size, 2, none⟩)) rfl rfl (by kernel_rfl) (by kernel_rfl) rfl rfl (ord_value (by kernel_rfl) ?_) ?_
  · (intro s' w' hS; go_simp)
  (try simp only [Act.put, List.setIfInBounds_toArray, List.set_cons_zero, List.set_cons_succ])
  refine linp_step (i := 6) (d := some 93) (v := .int .i64 sr) rfl rfl (by kernel_rfl) (by kernel_rfl) rfl rfl (ord_value (by kernel_rfl) ?_) ?_
  · (intro s' w' hS; (obtain ⟨c0, c1, c2, c3, c4⟩ := hS.cells; go_simp))
  (try simp only [Act.put, List.setIfInBounds_toArray, List.set_cons_zero, List.set_cons_succ])
  refine linp_turnD (i := 7) (d := some 94) [8, 9] (fun u k => u = .int .i64 n ∧ k = 0) rfl rfl (by kernel_rfl) (by kernel_rfl) rfl (by kernel_rfl) (⟨_, _, rfl, rfl⟩) (by kernel_rfl) (fun w' hS => givesP_call (f := 53) (args := #[.pointer (some ⟨E.R, 0, none⟩), .int .i64 sr]) (by go_simp <;> rfl) ((HN.out _ hS.2).mono fun e w2 hh => Or.inl ⟨_, hh.1, 0, ⟨rfl, rfl⟩, hS.read hh.2⟩)) ?_
  rintro _ _ ⟨rfl, rfl⟩
  (try simp only [Act.put, List.setIfInBounds_toArray, List.set_cons_zero, List.set_cons_succ])
  refine linp_turnD (i := 8) (d := some 95) [9] (fun u k => u = .int .i64 v ∧ k = 0) rfl rfl (by kernel_rfl) (by kernel_rfl) rfl (by kernel_rfl) (⟨_, _, rfl, rfl⟩) (by kernel_rfl) (fun w' hS => givesP_call (f := 55) (args := #[.pointer (some ⟨E.R, 0, none⟩), .int .i64 n]) (by go_simp <;> rfl) ((HF.out _ hS.2).mono fun e w2 hh => Or.inl ⟨_, hh.1, 0, ⟨rfl, rfl⟩, hS.read hh.2⟩)) ?_
  rintro _ _ ⟨rfl, rfl⟩
  (try simp only [Act.put, List.setIfInBounds_toArray, List.set_cons_zero, List.set_cons_succ])
  refine linp_turnD (i := 9) (d := some 96) [] (fun u k => u = .tuple #[] ∧ k = 1) rfl rfl (by kernel_rfl) (by kernel_rfl) rfl (by kernel_rfl) (⟨_, _, rfl, rfl⟩) (by kernel_rfl) (fun w' hS => givesP_call (f := 51) (args := #[.pointer (some ⟨E.R, 0, none⟩), .int .i64 d, .int .i64 v]) (by go_simp <;> rfl) ((HL.out _ hS.2).mono fun e w2 hh => Or.inl ⟨_, hh.1, 1, ⟨rfl, rfl⟩, hS.turn HNO.out hh.2⟩)) ?_
  rintro _ _ ⟨rfl, rfl⟩
  (try simp only [Act.put, List.setIfInBounds_toArray, List.set_cons_zero, List.set_cons_succ])
  refine linp_done (by kernel_rfl) ?_
  intro w' hS
  go_wp2
  go_end0
  exact ⟨rfl, hS.2⟩
set_option maxHeartbeats 4000000 in
theorem do_53_no (h : RunAt E S s W) {y : Nat} (n : Int) (d sr f im : Int) (hn : ∀ W', Below W.heap.size W W' → Calls Try.prog 53 #[.pointer (some ⟨E.R, 0, none⟩), .int .i64 sr] W' fun e w' => e = .returned (.int .i64 n) ∧ Below W'.heap.size W' w') (hf : ∀ W', Below W.heap.size W W' → Calls Try.prog 55 #[.pointer (some ⟨E.R, 0, none⟩), .int .i64 n] W' fun e w' => e = whyE y ∧ Below W'.heap.size W' w') : Calls Try.prog 49 #[.pointer (some ⟨E.R, 0, none⟩), .agg #[.int .i64 53, .int .i64 d, .int .i64 sr, .int .i64 f, .int .i64 im]] W fun e w' => e = whyE y ∧ RunTo E S W s w' := by
  have H := Lib.hid h
  have HX := Lib.hid (Yq.boxS_new W (⟨53, d, sr, f, im⟩ : Y.In) 64)
  have HNO : Hid (¬ Own E S W.heap.size) := Lib.hid (fun hk => by have := h.ownLt hk; omega)
  have HN := Lib.hid hn
  have HF := Lib.hid hf
  clear h hn hf
  go_enter Try.func49, Try.ntmps49
  go_upto_region 1 with fail
  generalize W.alloc (.cells #[.int .i64 53, .int .i64 d, .int .i64 sr, .int .i64 f, .int .i64 im] 64) = W1 at HX ⊢
  obtain ⟨c0, c1, c2, c3, c4⟩ := HX.out.cells
  go_upto_region 19 with fail
  clear c0 c1 c2 c3 c4
  refine wp_region_linp (DoS E S s W (⟨53, d, sr, f, im⟩ : Y.In)) (BadE E S s W y) (fun i => i == 7 || i == 8 || i == 9) (fun i => [.pointer (some ⟨E.R, 0, none⟩), .pointer (some ⟨W.heap.size, 1, none⟩), .int .i64 d, .pointer (some ⟨E.R, 0, none⟩), .pointer (some ⟨E.R, 0, none⟩), .pointer (some ⟨W.heap.size, 2, none⟩), .int .i64 sr, undef, undef, undef].getD i undef) (0) (by kernel_rfl) (by kernel_rfl) (fun ch a' w' hd hb => by
    obtain ⟨he, hb⟩ := hb
    injection he with he
    subst he
    exact ⟨hd, rfl, hb⟩) (DoS.start HX.out) ?_
  refine linp_step (i := 0) (d := some 87) (v := .pointer (some ⟨E.R, 0, none⟩)) rfl rfl (by kernel_rfl) (by kernel_rfl) rfl rfl (ord_value (by kernel_rfl) ?_) ?_
  · (intro s' w' hS; go_simp)
  (try simp only [Act.put, List.setIfInBounds_toArray, List.set_cons_zero, List.set_cons_succ])
  refine linp_step (i := 1) (d := some 88) (v := .pointer (some ⟨W.heap.size, 1, none⟩)) rfl rfl (by kernel_rfl) (by kernel_rfl) rfl rfl (ord_value (by kernel_rfl) ?_) ?_
  · (intro s' w' hS; go_simp)
  (try simp only [Act.put, List.setIfInBounds_toArray, List.set_cons_zero, List.set_cons_succ])
  refine linp_step (i := 2) (d := some 89) (v := .int .i64 d) rfl rfl (by kernel_rfl) (by kernel_rfl) rfl rfl (ord_value (by kernel_rfl) ?_) ?_
  · (intro s' w' hS; (obtain ⟨c0, c1, c2, c3, c4⟩ := hS.cells; go_simp))
  (try simp only [Act.put, List.setIfInBounds_toArray, List.set_cons_zero, List.set_cons_succ])
  refine linp_step (i := 3) (d := some 90) (v := .pointer (some ⟨E.R, 0, none⟩)) rfl rfl (by kernel_rfl) (by kernel_rfl) rfl rfl (ord_value (by kernel_rfl) ?_) ?_
  · (intro s' w' hS; go_simp)
  (try simp only [Act.put, List.setIfInBounds_toArray, List.set_cons_zero, List.set_cons_succ])
  refine linp_step (i := 4) (d := some 91) (v := .pointer (some ⟨E.R, 0, none⟩)) rfl rfl (by kernel_rfl) (by kernel_rfl) rfl rfl (ord_value (by kernel_rfl) ?_) ?_
  · (intro s' w' hS; go_simp)
  (try simp only [Act.put, List.setIfInBounds_toArray, List.set_cons_zero, List.set_cons_succ])
  refine linp_step (i := 5) (d := some 92) (v := .pointer (some ⟨W.heap.size, 2, none⟩)) rfl rfl (by kernel_rfl) (by kernel_rfl) rfl rfl (ord_value (by kernel_rfl) ?_) ?_
  · (intro s' w' hS; go_simp)
  (try simp only [Act.put, List.setIfInBounds_toArray, List.set_cons_zero, List.set_cons_succ])
  refine linp_step (i := 6) (d := some 93) (v := .int .i64 sr) rfl rfl (by kernel_rfl) (by kernel_rfl) rfl rfl (ord_value (by kernel_rfl) ?_) ?_
  · (intro s' w' hS; (obtain ⟨c0, c1, c2, c3, c4⟩ := hS.cells; go_simp))
  (try simp only [Act.put, List.setIfInBounds_toArray, List.set_cons_zero, List.set_cons_succ])
  refine linp_turnD (i := 7) (d := some 94) [8, 9] (fun u k => u = .int .i64 n ∧ k = 0) rfl rfl (by kernel_rfl) (by kernel_rfl) rfl (by kernel_rfl) (⟨_, _, rfl, rfl⟩) (by kernel_rfl) (fun w' hS => givesP_call (f := 53) (args := #[.pointer (some ⟨E.R, 0, none⟩), .int .i64 sr]) (by go_simp <;> rfl) ((HN.out _ hS.2).mono fun e w2 hh => Or.inl ⟨_, hh.1, 0, ⟨rfl, rfl⟩, hS.read hh.2⟩)) ?_
  rintro _ _ ⟨rfl, rfl⟩
  (try simp only [Act.put, List.setIfInBounds_toArray, List.set_cons_zero, List.set_cons_succ])
  refine linp_turnD (i := 8) (d := some 95) [9] (fun u k => u = .int .i64 0 ∧ k = 2) rfl rfl (by kernel_rfl) (by kernel_rfl) rfl (by kernel_rfl) (⟨_, _, rfl, rfl⟩) (by kernel_rfl) (fun w' hS => givesP_call (f := 55) (args := #[.pointer (some ⟨E.R, 0, none⟩), .int .i64 n]) (by go_simp <;> rfl) ((HF.out _ hS.2).mono fun e w2 hh => Or.inr ⟨_, hh.1, rfl, RunTo.self H.out (hS.2.trans (hh.2.mono hS.2.size))⟩)) ?_
  rintro _ _ ⟨rfl, rfl⟩
  (try simp only [Act.put, List.setIfInBounds_toArray, List.set_cons_zero, List.set_cons_succ])
  refine linp_turnD (i := 9) (d := some 96) [] (fun u k => u = .int .i64 0 ∧ k = 2) rfl rfl (by kernel_rfl) (by kernel_rfl) rfl (by kernel_rfl) (⟨_, _, rfl, rfl⟩) (by kernel_rfl) (fun w' hS => hS.2.elim) ?_
  rintro _ _ ⟨rfl, rfl⟩
  (try simp only [Act.put, List.setIfInBounds_toArray, List.set_cons_zero, List.set_cons_succ])
  refine linp_done (by kernel_rfl) ?_
  intro w' hS
  exact hS.2.elim
set_option maxHeartbeats 4000000 in
theorem do_53_num (h : RunAt E S s W) {y : Nat} (d sr f im : Int) (hn : ∀ W', Below W.heap.size W W' → Calls Try.prog 53 #[.pointer (some ⟨E.R, 0, none⟩), .int .i64 sr] W' fun e w' => e = whyE y ∧ Below W'.heap.size W' w') : Calls Try.prog 49 #[.pointer (some ⟨E.R, 0, none⟩), .agg #[.int .i64 53, .int .i64 d, .int .i64 sr, .int .i64 f, .int .i64 im]] W fun e w' => e = whyE y ∧ RunTo E S W s w' := by
  have H := Lib.hid h
  have HX := Lib.hid (Yq.boxS_new W (⟨53, d, sr, f, im⟩ : Y.In) 64)
  have HNO : Hid (¬ Own E S W.heap.size) := Lib.hid (fun hk => by have := h.ownLt hk; omega)
  have HN := Lib.hid hn
  clear h hn
  go_enter Try.func49, Try.ntmps49
  go_upto_region 1 with fail
  generalize W.alloc (.cells #[.int .i64 53, .int .i64 d, .int .i64 sr, .int .i64 f, .int .i64 im] 64) = W1 at HX ⊢
  obtain ⟨c0, c1, c2, c3, c4⟩ := HX.out.cells
  go_upto_region 19 with fail
  clear c0 c1 c2 c3 c4
  refine wp_region_linp (DoS E S s W (⟨53, d, sr, f, im⟩ : Y.In)) (BadE E S s W y) (fun i => i == 7 || i == 8 || i == 9) (fun i => [.pointer (some ⟨E.R, 0, none⟩), .pointer (some ⟨W.heap.size, 1, none⟩), .int .i64 d, .pointer (some ⟨E.R, 0, none⟩), .pointer (some ⟨E.R, 0, none⟩), .pointer (some ⟨W.heap.size, 2, none⟩), .int .i64 sr, undef, undef, undef].getD i undef) (0) (by kernel_rfl) (by kernel_rfl) (fun ch a' w' hd hb => by
    obtain ⟨he, hb⟩ := hb
    injection he with he
    subst he
    exact ⟨hd, rfl, hb⟩) (DoS.start HX.out) ?_
  refine linp_step (i := 0) (d := some 87) (v := .pointer (some ⟨E.R, 0, none⟩)) rfl rfl (by kernel_rfl) (by kernel_rfl) rfl rfl (ord_value (by kernel_rfl) ?_) ?_
  · (intro s' w' hS; go_simp)
  (try simp only [Act.put, List.setIfInBounds_toArray, List.set_cons_zero, List.set_cons_succ])
  refine linp_step (i := 1) (d := some 88) (v := .pointer (some ⟨W.heap.size, 1, none⟩)) rfl rfl (by kernel_rfl) (by kernel_rfl) rfl rfl (ord_value (by kernel_rfl) ?_) ?_
  · (intro s' w' hS; go_simp)
  (try simp only [Act.put, List.setIfInBounds_toArray, List.set_cons_zero, List.set_cons_succ])
  refine linp_step (i := 2) (d := some 89) (v := .int .i64 d) rfl rfl (by kernel_rfl) (by kernel_rfl) rfl rfl (ord_value (by kernel_rfl) ?_) ?_
  · (intro s' w' hS; (obtain ⟨c0, c1, c2, c3, c4⟩ := hS.cells; go_simp))
  (try simp only [Act.put, List.setIfInBounds_toArray, List.set_cons_zero, List.set_cons_succ])
  refine linp_step (i := 3) (d := some 90) (v := .pointer (some ⟨E.R, 0, none⟩)) rfl rfl (by kernel_rfl) (by kernel_rfl) rfl rfl (ord_value (by kernel_rfl) ?_) ?_
  · (intro s' w' hS; go_simp)
  (try simp only [Act.put, List.setIfInBounds_toArray, List.set_cons_zero, List.set_cons_succ])
  refine linp_step (i := 4) (d := some 91) (v := .pointer (some ⟨E.R, 0, none⟩)) rfl rfl (by kernel_rfl) (by kernel_rfl) rfl rfl (ord_value (by kernel_rfl) ?_) ?_
  · (intro s' w' hS; go_simp)
  (try simp only [Act.put, List.setIfInBounds_toArray, List.set_cons_zero, List.set_cons_succ])
  refine linp_step (i := 5) (d := some 92) (v := .pointer (some ⟨W.heap.size, 2, none⟩)) rfl rfl (by kernel_rfl) (by kernel_rfl) rfl rfl (ord_value (by kernel_rfl) ?_) ?_
  · (intro s' w' hS; go_simp)
  (try simp only [Act.put, List.setIfInBounds_toArray, List.set_cons_zero, List.set_cons_succ])
  refine linp_step (i := 6) (d := some 93) (v := .int .i64 sr) rfl rfl (by kernel_rfl) (by kernel_rfl) rfl rfl (ord_value (by kernel_rfl) ?_) ?_
  · (intro s' w' hS; (obtain ⟨c0, c1, c2, c3, c4⟩ := hS.cells; go_simp))
  (try simp only [Act.put, List.setIfInBounds_toArray, List.set_cons_zero, List.set_cons_succ])
  refine linp_turnD (i := 7) (d := some 94) [8, 9] (fun u k => u = .int .i64 0 ∧ k = 2) rfl rfl (by kernel_rfl) (by kernel_rfl) rfl (by kernel_rfl) (⟨_, _, rfl, rfl⟩) (by kernel_rfl) (fun w' hS => givesP_call (f := 53) (args := #[.pointer (some ⟨E.R, 0, none⟩), .int .i64 sr]) (by go_simp <;> rfl) ((HN.out _ hS.2).mono fun e w2 hh => Or.inr ⟨_, hh.1, rfl, RunTo.self H.out (hS.2.trans (hh.2.mono hS.2.size))⟩)) ?_
  rintro _ _ ⟨rfl, rfl⟩
  (try simp only [Act.put, List.setIfInBounds_toArray, List.set_cons_zero, List.set_cons_succ])
  refine linp_turnD (i := 8) (d := some 95) [9] (fun u k => u = .int .i64 0 ∧ k = 2) rfl rfl (by kernel_rfl) (by kernel_rfl) rfl (by kernel_rfl) (⟨_, _, rfl, rfl⟩) (by kernel_rfl) (fun w' hS => hS.2.elim) ?_
  rintro _ _ ⟨rfl, rfl⟩
  (try simp only [Act.put, List.setIfInBounds_toArray, List.set_cons_zero, List.set_cons_succ])
  refine linp_turnD (i := 9) (d := some 96) [] (fun u k => u = .int .i64 0 ∧ k = 2) rfl rfl (by kernel_rfl) (by kernel_rfl) rfl (by kernel_rfl) (⟨_, _, rfl, rfl⟩) (by kernel_rfl) (fun w' hS => hS.2.elim) ?_
  rintro _ _ ⟨rfl, rfl⟩
  (try simp only [Act.put, List.setIfInBounds_toArray, List.set_cons_zero, List.set_cons_succ])
  refine linp_done (by kernel_rfl) ?_
  intro w' hS
  exact hS.2.elim
set_option maxHeartbeats 4000000 in
theorem do_49_ok (h : RunAt E S s W) (n : Int) (d sr f im : Int) (hn : ∀ W', Below W.heap.size W W' → Calls Try.prog 53 #[.pointer (some ⟨E.R, 0, none⟩), .int .i64 sr] W' fun e w' => e = .returned (.int .i64 n) ∧ Below W'.heap.size W' w') (hl : ∀ W', Below W.heap.size W W' → Calls Try.prog 54 #[.pointer (some ⟨E.R, 0, none⟩), .int .i64 f, .int .i64 n] W' fun e w' => e = .returned (.tuple #[]) ∧ RunTo E S W' t w') : Calls Try.prog 49 #[.pointer (some ⟨E.R, 0, none⟩), .agg #[.int .i64 49, .int .i64 d, .int .i64 sr, .int .i64 f, .int .i64 im]] W fun e w' => e = .returned (.tuple #[]) ∧ RunTo E S W t w' := by
  have H := Lib.hid h
  have HX := Lib.hid (Yq.boxS_new W (⟨49, d, sr, f, im⟩ : Y.In) 64)
  have HNO : Hid (¬ Own E S W.heap.size) := Lib.hid (fun hk => by have := h.ownLt hk; omega)
  have HN := Lib.hid hn
  have HL := Lib.hid hl
  clear h hn hl
  go_enter Try.func49, Try.ntmps49
  go_upto_region 1 with fail
  generalize W.alloc (.cells #[.int .i64 49, .int .i64 d, .int .i64 sr, .int .i64 f, .int .i64 im] 64) = W1 at HX ⊢
  obtain ⟨c0, c1, c2, c3, c4⟩ := HX.out.cells
  go_upto_region 15 with fail
  clear c0 c1 c2 c3 c4
  refine wp_region_linp (DoS E S t W (⟨49, d, sr, f, im⟩ : Y.In)) (fun _ _ => False) (fun i => i == 6 || i == 7) (fun i => [.pointer (some ⟨E.R, 0, none⟩), .pointer (some ⟨W.heap.size, 3, none⟩), .int .i64 f, .pointer (some ⟨E.R, 0, none⟩), .pointer (some ⟨W.heap.size, 2, none⟩), .int .i64 sr, undef, undef].getD i undef) (0) (by kernel_rfl) (by kernel_rfl) (fun _ _ _ _ hf => hf.elim) (DoS.start HX.out) ?_
  refine linp_step (i := 0) (d := some 67) (v := .pointer (some ⟨E.R, 0, none⟩)) rfl rfl (by kernel_rfl) (by kernel_rfl) rfl rfl (ord_value (by kernel_rfl) ?_) ?_
  · (intro s' w' hS; go_simp)
  (try simp only [Act.put, List.setIfInBounds_toArray, List.set_cons_zero, List.set_cons_succ])
  refine linp_step (i := 1) (d := some 68) (v := .pointer (some ⟨W.heap.size, 3, none⟩)) rfl rfl (by kernel_rfl) (by kernel_rfl) rfl rfl (ord_value (by kernel_rfl) ?_) ?_
  · (intro s' w' hS; go_simp)
  (try simp only [Act.put, List.setIfInBounds_toArray, List.set_cons_zero, List.set_cons_succ])
  refine linp_step (i := 2) (d := some 69) (v := .int .i64 f) rfl rfl (by kernel_rfl) (by kernel_rfl) rfl rfl (ord_value (by kernel_rfl) ?_) ?_
  · (intro s' w' hS; (obtain ⟨c0, c1, c2, c3, c4⟩ := hS.cells; go_simp))
  (try simp only [Act.put, List.setIfInBounds_toArray, List.set_cons_zero, List.set_cons_succ])
  refine linp_step (i := 3) (d := some 70) (v := .pointer (some ⟨E.R, 0, none⟩)) rfl rfl (by kernel_rfl) (by kernel_rfl) rfl rfl (ord_value (by kernel_rfl) ?_) ?_
  · (intro s' w' hS; go_simp)
  (try simp only [Act.put, List.setIfInBounds_toArray, List.set_cons_zero, List.set_cons_succ])
  refine linp_step (i := 4) (d := some 71) (v := .pointer (some ⟨W.heap.size, 2, none⟩)) rfl rfl (by kernel_rfl) (by kernel_rfl) rfl rfl (ord_value (by kernel_rfl) ?_) ?_
  · (intro s' w' hS; go_simp)
  (try simp only [Act.put, List.setIfInBounds_toArray, List.set_cons_zero, List.set_cons_succ])
  refine linp_step (i := 5) (d := some 72) (v := .int .i64 sr) rfl rfl (by kernel_rfl) (by kernel_rfl) rfl rfl (ord_value (by kernel_rfl) ?_) ?_
  · (intro s' w' hS; (obtain ⟨c0, c1, c2, c3, c4⟩ := hS.cells; go_simp))
  (try simp only [Act.put, List.setIfInBounds_toArray, List.set_cons_zero, List.set_cons_succ])
  refine linp_turnD (i := 6) (d := some 73) [7] (fun u k => u = .int .i64 n ∧ k = 0) rfl rfl (by kernel_rfl) (by kernel_rfl) rfl (by kernel_rfl) (⟨_, _, rfl, rfl⟩) (by kernel_rfl) (fun w' hS => givesP_call (f := 53) (args := #[.pointer (some ⟨E.R, 0, none⟩), .int .i64 sr]) (by go_simp <;> rfl) ((HN.out _ hS.2).mono fun e w2 hh => Or.inl ⟨_, hh.1, 0, ⟨rfl, rfl⟩, hS.read hh.2⟩)) ?_
  rintro _ _ ⟨rfl, rfl⟩
  (try simp only [Act.put, List.setIfInBounds_toArray, List.set_cons_zero, List.set_cons_succ])
  refine linp_turnD (i := 7) (d := some 74) [] (fun u k => u = .tuple #[] ∧ k = 1) rfl rfl (by kernel_rfl) (by kernel_rfl) rfl (by kernel_rfl) (⟨_, _, rfl, rfl⟩) (by kernel_rfl) (fun w' hS => givesP_call (f := 54) (args := #[.pointer (some ⟨E.R, 0, none⟩), .int .i64 f, .int .i64 n]) (by go_simp <;> rfl) ((HL.out _ hS.2).mono fun e w2 hh => Or.inl ⟨_, hh.1, 1, ⟨rfl, rfl⟩, hS.turn HNO.out hh.2⟩)) ?_
  rintro _ _ ⟨rfl, rfl⟩
  (try simp only [Act.put, List.setIfInBounds_toArray, List.set_cons_zero, List.set_cons_succ])
  refine linp_done (by kernel_rfl) ?_
  intro w' hS
  go_wp2
  go_end0
  exact ⟨rfl, hS.2⟩
set_option maxHeartbeats 4000000 in
theorem do_49_no (h : RunAt E S s W) {y : Nat} (n : Int) (d sr f im : Int) (hn : ∀ W', Below W.heap.size W W' → Calls Try.prog 53 #[.pointer (some ⟨E.R, 0, none⟩), .int .i64 sr] W' fun e w' => e = .returned (.int .i64 n) ∧ Below W'.heap.size W' w') (hl : ∀ W', Below W.heap.size W W' → Calls Try.prog 54 #[.pointer (some ⟨E.R, 0, none⟩), .int .i64 f, .int .i64 n] W' fun e w' => e = whyE y ∧ RunTo E S W' t w') : Calls Try.prog 49 #[.pointer (some ⟨E.R, 0, none⟩), .agg #[.int .i64 49, .int .i64 d, .int .i64 sr, .int .i64 f, .int .i64 im]] W fun e w' => e = whyE y ∧ RunTo E S W t w' := by
  have H := Lib.hid h
  have HX := Lib.hid (Yq.boxS_new W (⟨49, d, sr, f, im⟩ : Y.In) 64)
  have HNO : Hid (¬ Own E S W.heap.size) := Lib.hid (fun hk => by have := h.ownLt hk; omega)
  have HN := Lib.hid hn
  have HL := Lib.hid hl
  clear h hn hl
  go_enter Try.func49, Try.ntmps49
  go_upto_region 1 with fail
  generalize W.alloc (.cells #[.int .i64 49, .int .i64 d, .int .i64 sr, .int .i64 f, .int .i64 im] 64) = W1 at HX ⊢
  obtain ⟨c0, c1, c2, c3, c4⟩ := HX.out.cells
  go_upto_region 15 with fail
  clear c0 c1 c2 c3 c4
  refine wp_region_linp (DoS E S t W (⟨49, d, sr, f, im⟩ : Y.In)) (BadE E S t W y) (fun i => i == 6 || i == 7) (fun i => [.pointer (some ⟨E.R, 0, none⟩), .pointer (some ⟨W.heap.size, 3, none⟩), .int .i64 f, .pointer (some ⟨E.R, 0, none⟩), .pointer (some ⟨W.heap.size, 2, none⟩), .int .i64 sr, undef, undef].getD i undef) (0) (by kernel_rfl) (by kernel_rfl) (fun ch a' w' hd hb => by
    obtain ⟨he, hb⟩ := hb
    injection he with he
    subst he
    exact ⟨hd, rfl, hb⟩) (DoS.start HX.out) ?_
  refine linp_step (i := 0) (d := some 67) (v := .pointer (some ⟨E.R, 0, none⟩)) rfl rfl (by kernel_rfl) (by kernel_rfl) rfl rfl (ord_value (by kernel_rfl) ?_) ?_
  · (intro s' w' hS; go_simp)
  (try simp only [Act.put, List.setIfInBounds_toArray, List.set_cons_zero, List.set_cons_succ])
  refine linp_step (i := 1) (d := some 68) (v := .pointer (some ⟨W.heap.size, 3, none⟩)) rfl rfl (by kernel_rfl) (by kernel_rfl) rfl rfl (ord_value (by kernel_rfl) ?_) ?_
  · (intro s' w' hS; go_simp)
  (try simp only [Act.put, List.setIfInBounds_toArray, List.set_cons_zero, List.set_cons_succ])
  refine linp_step (i := 2) (d := some 69) (v := .int .i64 f) rfl rfl (by kernel_rfl) (by kernel_rfl) rfl rfl (ord_value (by kernel_rfl) ?_) ?_
  · (intro s' w' hS; (obtain ⟨c0, c1, c2, c3, c4⟩ := hS.cells; go_simp))
  (try simp only [Act.put, List.setIfInBounds_toArray, List.set_cons_zero, List.set_cons_succ])
  refine linp_step (i := 3) (d := some 70) (v := .pointer (some ⟨E.R, 0, none⟩)) rfl rfl (by kernel_rfl) (by kernel_rfl) rfl rfl (ord_value (by kernel_rfl) ?_) ?_
  · (intro s' w' hS; go_simp)
  (try simp only [Act.put, List.setIfInBounds_toArray, List.set_cons_zero, List.set_cons_succ])
  refine linp_step (i := 4) (d := some 71) (v := .pointer (some ⟨W.heap.size, 2, none⟩)) rfl rfl (by kernel_rfl) (by kernel_rfl) rfl rfl (ord_value (by kernel_rfl) ?_) ?_
  · (intro s' w' hS; go_simp)
  (try simp only [Act.put, List.setIfInBounds_toArray, List.set_cons_zero, List.set_cons_succ])
  refine linp_step (i := 5) (d := some 72) (v := .int .i64 sr) rfl rfl (by kernel_rfl) (by kernel_rfl) rfl rfl (ord_value (by kernel_rfl) ?_) ?_
  · (intro s' w' hS; (obtain ⟨c0, c1, c2, c3, c4⟩ := hS.cells; go_simp))
  (try simp only [Act.put, List.setIfInBounds_toArray, List.set_cons_zero, List.set_cons_succ])
  refine linp_turnD (i := 6) (d := some 73) [7] (fun u k => u = .int .i64 n ∧ k = 0) rfl rfl (by kernel_rfl) (by kernel_rfl) rfl (by kernel_rfl) (⟨_, _, rfl, rfl⟩) (by kernel_rfl) (fun w' hS => givesP_call (f := 53) (args := #[.pointer (some ⟨E.R, 0, none⟩), .int .i64 sr]) (by go_simp <;> rfl) ((HN.out _ hS.2).mono fun e w2 hh => Or.inl ⟨_, hh.1, 0, ⟨rfl, rfl⟩, hS.read hh.2⟩)) ?_
  rintro _ _ ⟨rfl, rfl⟩
  (try simp only [Act.put, List.setIfInBounds_toArray, List.set_cons_zero, List.set_cons_succ])
  refine linp_turnD (i := 7) (d := some 74) [] (fun u k => u = .int .i64 0 ∧ k = 2) rfl rfl (by kernel_rfl) (by kernel_rfl) rfl (by kernel_rfl) (⟨_, _, rfl, rfl⟩) (by kernel_rfl) (fun w' hS => givesP_call (f := 54) (args := #[.pointer (some ⟨E.R, 0, none⟩), .int .i64 f, .int .i64 n]) (by go_simp <;> rfl) ((HL.out _ hS.2).mono fun e w2 hh => Or.inr ⟨_, hh.1, rfl, hS.end_ hh.2⟩)) ?_
  rintro _ _ ⟨rfl, rfl⟩
  (try simp only [Act.put, List.setIfInBounds_toArray, List.set_cons_zero, List.set_cons_succ])
  refine linp_done (by kernel_rfl) ?_
  intro w' hS
  exact hS.2.elim
set_option maxHeartbeats 4000000 in
theorem do_49_num (h : RunAt E S s W) {y : Nat} (d sr f im : Int) (hn : ∀ W', Below W.heap.size W W' → Calls Try.prog 53 #[.pointer (some ⟨E.R, 0, none⟩), .int .i64 sr] W' fun e w' => e = whyE y ∧ Below W'.heap.size W' w') : Calls Try.prog 49 #[.pointer (some ⟨E.R, 0, none⟩), .agg #[.int .i64 49, .int .i64 d, .int .i64 sr, .int .i64 f, .int .i64 im]] W fun e w' => e = whyE y ∧ RunTo E S W s w' := by
  have H := Lib.hid h
  have HX := Lib.hid (Yq.boxS_new W (⟨49, d, sr, f, im⟩ : Y.In) 64)
  have HNO : Hid (¬ Own E S W.heap.size) := Lib.hid (fun hk => by have := h.ownLt hk; omega)
  have HN := Lib.hid hn
  clear h hn
  go_enter Try.func49, Try.ntmps49
  go_upto_region 1 with fail
  generalize W.alloc (.cells #[.int .i64 49, .int .i64 d, .int .i64 sr, .int .i64 f, .int .i64 im] 64) = W1 at HX ⊢
  obtain ⟨c0, c1, c2, c3, c4⟩ := HX.out.cells
  go_upto_region 15 with fail
  clear c0 c1 c2 c3 c4
  refine wp_region_linp (DoS E S s W (⟨49, d, sr, f, im⟩ : Y.In)) (BadE E S s W y) (fun i => i == 6 || i == 7) (fun i => [.pointer (some ⟨E.R, 0, none⟩), .pointer (some ⟨W.heap.size, 3, none⟩), .int .i64 f, .pointer (some ⟨E.R, 0, none⟩), .pointer (some ⟨W.heap.size, 2, none⟩), .int .i64 sr, undef, undef].getD i undef) (0) (by kernel_rfl) (by kernel_rfl) (fun ch a' w' hd hb => by
    obtain ⟨he, hb⟩ := hb
    injection he with he
    subst he
    exact ⟨hd, rfl, hb⟩) (DoS.start HX.out) ?_
  refine linp_step (i := 0) (d := some 67) (v := .pointer (some ⟨E.R, 0, none⟩)) rfl rfl (by kernel_rfl) (by kernel_rfl) rfl rfl (ord_value (by kernel_rfl) ?_) ?_
  · (intro s' w' hS; go_simp)
  (try simp only [Act.put, List.setIfInBounds_toArray, List.set_cons_zero, List.set_cons_succ])
  refine linp_step (i := 1) (d := some 68) (v := .pointer (some ⟨W.heap.size, 3, none⟩)) rfl rfl (by kernel_rfl) (by kernel_rfl) rfl rfl (ord_value (by kernel_rfl) ?_) ?_
  · (intro s' w' hS; go_simp)
  (try simp only [Act.put, List.setIfInBounds_toArray, List.set_cons_zero, List.set_cons_succ])
  refine linp_step (i := 2) (d := some 69) (v := .int .i64 f) rfl rfl (by kernel_rfl) (by kernel_rfl) rfl rfl (ord_value (by kernel_rfl) ?_) ?_
  · (intro s' w' hS; (obtain ⟨c0, c1, c2, c3, c4⟩ := hS.cells; go_simp))
  (try simp only [Act.put, List.setIfInBounds_toArray, List.set_cons_zero, List.set_cons_succ])
  refine linp_step (i := 3) (d := some 70) (v := .pointer (some ⟨E.R, 0, none⟩)) rfl rfl (by kernel_rfl) (by kernel_rfl) rfl rfl (ord_value (by kernel_rfl) ?_) ?_
  · (intro s' w' hS; go_simp)
  (try simp only [Act.put, List.setIfInBounds_toArray, List.set_cons_zero, List.set_cons_succ])
  refine linp_step (i := 4) (d := some 71) (v := .pointer (some ⟨W.heap.size, 2, none⟩)) rfl rfl (by kernel_rfl) (by kernel_rfl) rfl rfl (ord_value (by kernel_rfl) ?_) ?_
  · (intro s' w' hS; go_simp)
  (try simp only [Act.put, List.setIfInBounds_toArray, List.set_cons_zero, List.set_cons_succ])
  refine linp_step (i := 5) (d := some 72) (v := .int .i64 sr) rfl rfl (by kernel_rfl) (by kernel_rfl) rfl rfl (ord_value (by kernel_rfl) ?_) ?_
  · (intro s' w' hS; (obtain ⟨c0, c1, c2, c3, c4⟩ := hS.cells; go_simp))
  (try simp only [Act.put, List.setIfInBounds_toArray, List.set_cons_zero, List.set_cons_succ])
  refine linp_turnD (i := 6) (d := some 73) [7] (fun u k => u = .int .i64 0 ∧ k = 2) rfl rfl (by kernel_rfl) (by kernel_rfl) rfl (by kernel_rfl) (⟨_, _, rfl, rfl⟩) (by kernel_rfl) (fun w' hS => givesP_call (f := 53) (args := #[.pointer (some ⟨E.R, 0, none⟩), .int .i64 sr]) (by go_simp <;> rfl) ((HN.out _ hS.2).mono fun e w2 hh => Or.inr ⟨_, hh.1, rfl, RunTo.self H.out (hS.2.trans (hh.2.mono hS.2.size))⟩)) ?_
  rintro _ _ ⟨rfl, rfl⟩
  (try simp only [Act.put, List.setIfInBounds_toArray, List.set_cons_zero, List.set_cons_succ])
  refine linp_turnD (i := 7) (d := some 74) [] (fun u k => u = .int .i64 0 ∧ k = 2) rfl rfl (by kernel_rfl) (by kernel_rfl) rfl (by kernel_rfl) (⟨_, _, rfl, rfl⟩) (by kernel_rfl) (fun w' hS => hS.2.elim) ?_
  rintro _ _ ⟨rfl, rfl⟩
  (try simp only [Act.put, List.setIfInBounds_toArray, List.set_cons_zero, List.set_cons_succ])
  refine linp_done (by kernel_rfl) ?_
  intro w' hS
  exact hS.2.elim
set_option maxHeartbeats 4000000 in
theorem do_52_ok (h : RunAt E S s W) (n : Int) (d sr f im : Int) (hn : ∀ W', Below W.heap.size W W' → Calls Try.prog 53 #[.pointer (some ⟨E.R, 0, none⟩), .int .i64 sr] W' fun e w' => e = .returned (.int .i64 n) ∧ Below W'.heap.size W' w') (hl : ∀ W', Below W.heap.size W W' → Calls Try.prog 56 #[.pointer (some ⟨E.R, 0, none⟩), .int .i64 f, .int .i64 n] W' fun e w' => e = .returned (.tuple #[]) ∧ RunTo E S W' t w') : Calls Try.prog 49 #[.pointer (some ⟨E.R, 0, none⟩), .agg #[.int .i64 52, .int .i64 d, .int .i64 sr, .int .i64 f, .int .i64 im]] W fun e w' => e = .returned (.tuple #[]) ∧ RunTo E S W t w' := by
  have H := Lib.hid h
  have HX := Lib.hid (Yq.boxS_new W (⟨52, d, sr, f, im⟩ : Y.In) 64)
  have HNO : Hid (¬ Own E S W.heap.size) := Lib.hid (fun hk => by have := h.ownLt hk; omega)
  have HN := Lib.hid hn
  have HL := Lib.hid hl
  clear h hn hl
  go_enter Try.func49, Try.ntmps49
  go_upto_region 1 with fail
  generalize W.alloc (.cells #[.int .i64 52, .int .i64 d, .int .i64 sr, .int .i64 f, .int .i64 im] 64) = W1 at HX ⊢
  obtain ⟨c0, c1, c2, c3, c4⟩ := HX.out.cells
  go_upto_region 21 with fail
  clear c0 c1 c2 c3 c4
  refine wp_region_linp (DoS E S t W (⟨52, d, sr, f, im⟩ : Y.In)) (fun _ _ => False) (fun i => i == 6 || i == 7) (fun i => [.pointer (some ⟨E.R, 0, none⟩), .pointer (some ⟨W.heap.size, 3, none⟩), .int .i64 f, .pointer (some ⟨E.R, 0, none⟩), .pointer (some ⟨W.heap.size, 2, none⟩), .int .i64 sr, undef, undef].getD i undef) (0) (by kernel_rfl) (by kernel_rfl) (fun _ _ _ _ hf => hf.elim) (DoS.start HX.out) ?_
  refine linp_step (i := 0) (d := some 99) (v := .pointer (some ⟨E.R, 0, none⟩)) rfl rfl (by kernel_rfl) (by kernel_rfl) rfl rfl (ord_value (by kernel_rfl) ?_) ?_
  · (intro s' w' hS; go_simp)
  (try simp only [Act.put, List.setIfInBounds_toArray, List.set_cons_zero, List.set_cons_succ])
  refine linp_step (i := 1) (d := some 100) (v := .pointer (some ⟨W.heap.size, 3, none⟩)) rfl rfl (by kernel_rfl) (by kernel_rfl) rfl rfl (ord_value (by kernel_rfl) ?_) ?_
  · (intro s' w' hS; go_simp)
  (try simp only [Act.put, List.setIfInBounds_toArray, List.set_cons_zero, List.set_cons_succ])
  refine linp_step (i := 2) (d := some 101) (v := .int .i64 f) rfl rfl (by kernel_rfl) (by kernel_rfl) rfl rfl (ord_value (by kernel_rfl) ?_) ?_
  · (intro s' w' hS; (obtain ⟨c0, c1, c2, c3, c4⟩ := hS.cells; go_simp))
  (try simp only [Act.put, List.setIfInBounds_toArray, List.set_cons_zero, List.set_cons_succ])
  refine linp_step (i := 3) (d := some 102) (v := .pointer (some ⟨E.R, 0, none⟩)) rfl rfl (by kernel_rfl) (by kernel_rfl) rfl rfl (ord_value (by kernel_rfl) ?_) ?_
  · (intro s' w' hS; go_simp)
  (try simp only [Act.put, List.setIfInBounds_toArray, List.set_cons_zero, List.set_cons_succ])
  refine linp_step (i := 4) (d := some 103) (v := .pointer (some ⟨W.heap.size, 2, none⟩)) rfl rfl (by kernel_rfl) (by kernel_rfl) rfl rfl (ord_value (by kernel_rfl) ?_) ?_
  · (intro s' w' hS; go_simp)
  (try simp only [Act.put, List.setIfInBounds_toArray, List.set_cons_zero, List.set_cons_succ])
  refine linp_step (i := 5) (d := some 104) (v := .int .i64 sr) rfl rfl (by kernel_rfl) (by kernel_rfl) rfl rfl (ord_value (by kernel_rfl) ?_) ?_
  · (intro s' w' hS; (obtain ⟨c0, c1, c2, c3, c4⟩ := hS.cells; go_simp))
  (try simp only [Act.put, List.setIfInBounds_toArray, List.set_cons_zero, List.set_cons_succ])
  refine linp_turnD (i := 6) (d := some 105) [7] (fun u k => u = .int .i64 n ∧ k = 0) rfl rfl (by kernel_rfl) (by kernel_rfl) rfl (by kernel_rfl) (⟨_, _, rfl, rfl⟩) (by kernel_rfl) (fun w' hS => givesP_call (f := 53) (args := #[.pointer (some ⟨E.R, 0, none⟩), .int .i64 sr]) (by go_simp <;> rfl) ((HN.out _ hS.2).mono fun e w2 hh => Or.inl ⟨_, hh.1, 0, ⟨rfl, rfl⟩, hS.read hh.2⟩)) ?_
  rintro _ _ ⟨rfl, rfl⟩
  (try simp only [Act.put, List.setIfInBounds_toArray, List.set_cons_zero, List.set_cons_succ])
  refine linp_turnD (i := 7) (d := some 106) [] (fun u k => u = .tuple #[] ∧ k = 1) rfl rfl (by kernel_rfl) (by kernel_rfl) rfl (by kernel_rfl) (⟨_, _, rfl, rfl⟩) (by kernel_rfl) (fun w' hS => givesP_call (f := 56) (args := #[.pointer (some ⟨E.R, 0, none⟩), .int .i64 f, .int .i64 n]) (by go_simp <;> rfl) ((HL.out _ hS.2).mono fun e w2 hh => Or.inl ⟨_, hh.1, 1, ⟨rfl, rfl⟩, hS.turn HNO.out hh.2⟩)) ?_
  rintro _ _ ⟨rfl, rfl⟩
  (try simp only [Act.put, List.setIfInBounds_toArray, List.set_cons_zero, List.set_cons_succ])
  refine linp_done (by kernel_rfl) ?_
  intro w' hS
  go_wp2
  go_end0
  exact ⟨rfl, hS.2⟩
set_option maxHeartbeats 4000000 in
theorem do_52_no (h : RunAt E S s W) {y : Nat} (n : Int) (d sr f im : Int) (hn : ∀ W', Below W.heap.size W W' → Calls Try.prog 53 #[.pointer (some ⟨E.R, 0, none⟩), .int .i64 sr] W' fun e w' => e = .returned (.int .i64 n) ∧ Below W'.heap.size W' w') (hl : ∀ W', Below W.heap.size W W' → Calls Try.prog 56 #[.pointer (some ⟨E.R, 0, none⟩), .int .i64 f, .int .i64 n] W' fun e w' => e = whyE y ∧ RunTo E S W' t w') : Calls Try.prog 49 #[.pointer (some ⟨E.R, 0, none⟩), .agg #[.int .i64 52, .int .i64 d, .int .i64 sr, .int .i64 f, .int .i64 im]] W fun e w' => e = whyE y ∧ RunTo E S W t w' := by
  have H := Lib.hid h
  have HX := Lib.hid (Yq.boxS_new W (⟨52, d, sr, f, im⟩ : Y.In) 64)
  have HNO : Hid (¬ Own E S W.heap.size) := Lib.hid (fun hk => by have := h.ownLt hk; omega)
  have HN := Lib.hid hn
  have HL := Lib.hid hl
  clear h hn hl
  go_enter Try.func49, Try.ntmps49
  go_upto_region 1 with fail
  generalize W.alloc (.cells #[.int .i64 52, .int .i64 d, .int .i64 sr, .int .i64 f, .int .i64 im] 64) = W1 at HX ⊢
  obtain ⟨c0, c1, c2, c3, c4⟩ := HX.out.cells
  go_upto_region 21 with fail
  clear c0 c1 c2 c3 c4
  refine wp_region_linp (DoS E S t W (⟨52, d, sr, f, im⟩ : Y.In)) (BadE E S t W y) (fun i => i == 6 || i == 7) (fun i => [.pointer (some ⟨E.R, 0, none⟩), .pointer (some ⟨W.heap.size, 3, none⟩), .int .i64 f, .pointer (some ⟨E.R, 0, none⟩), .pointer (some ⟨W.heap.size, 2, none⟩), .int .i64 sr, undef, undef].getD i undef) (0) (by kernel_rfl) (by kernel_rfl) (fun ch a' w' hd hb => by
    obtain ⟨he, hb⟩ := hb
    injection he with he
    subst he
    exact ⟨hd, rfl, hb⟩) (DoS.start HX.out) ?_
  refine linp_step (i := 0) (d := some 99) (v := .pointer (some ⟨E.R, 0, none⟩)) rfl rfl (by kernel_rfl) (by kernel_rfl) rfl rfl (ord_value (by kernel_rfl) ?_) ?_
  · (intro s' w' hS; go_simp)
  (try simp only [Act.put, List.setIfInBounds_toArray, List.set_cons_zero, List.set_cons_succ])
  refine linp_step (i := 1) (d := some 100) (v := .pointer (some ⟨W.heap.size, 3, none⟩)) rfl rfl (by kernel_rfl) (by kernel_rfl) rfl rfl (ord_value (by kernel_rfl) ?_) ?_
  · (intro s' w' hS; go_simp)
  (try simp only [Act.put, List.setIfInBounds_toArray, List.set_cons_zero, List.set_cons_succ])
  refine linp_step (i := 2) (d := some 101) (v := .int .i64 f) rfl rfl (by kernel_rfl) (by kernel_rfl) rfl rfl (ord_value (by kernel_rfl) ?_) ?_
  · (intro s' w' hS; (obtain ⟨c0, c1, c2, c3, c4⟩ := hS.cells; go_simp))
  (try simp only [Act.put, List.setIfInBounds_toArray, List.set_cons_zero, List.set_cons_succ])
  refine linp_step (i := 3) (d := some 102) (v := .pointer (some ⟨E.R, 0, none⟩)) rfl rfl (by kernel_rfl) (by kernel_rfl) rfl rfl (ord_value (by kernel_rfl) ?_) ?_
  · (intro s' w' hS; go_simp)
  (try simp only [Act.put, List.setIfInBounds_toArray, List.set_cons_zero, List.set_cons_succ])
  refine linp_step (i := 4) (d := some 103) (v := .pointer (some ⟨W.heap.size, 2, none⟩)) rfl rfl (by kernel_rfl) (by kernel_rfl) rfl rfl (ord_value (by kernel_rfl) ?_) ?_
  · (intro s' w' hS; go_simp)
  (try simp only [Act.put, List.setIfInBounds_toArray, List.set_cons_zero, List.set_cons_succ])
  refine linp_step (i := 5) (d := some 104) (v := .int .i64 sr) rfl rfl (by kernel_rfl) (by kernel_rfl) rfl rfl (ord_value (by kernel_rfl) ?_) ?_
  · (intro s' w' hS; (obtain ⟨c0, c1, c2, c3, c4⟩ := hS.cells; go_simp))
  (try simp only [Act.put, List.setIfInBounds_toArray, List.set_cons_zero, List.set_cons_succ])
  refine linp_turnD (i := 6) (d := some 105) [7] (fun u k => u = .int .i64 n ∧ k = 0) rfl rfl (by kernel_rfl) (by kernel_rfl) rfl (by kernel_rfl) (⟨_, _, rfl, rfl⟩) (by kernel_rfl) (fun w' hS => givesP_call (f := 53) (args := #[.pointer (some ⟨E.R, 0, none⟩), .int .i64 sr]) (by go_simp <;> rfl) ((HN.out _ hS.2).mono fun e w2 hh => Or.inl ⟨_, hh.1, 0, ⟨rfl, rfl⟩, hS.read hh.2⟩)) ?_
  rintro _ _ ⟨rfl, rfl⟩
  (try simp only [Act.put, List.setIfInBounds_toArray, List.set_cons_zero, List.set_cons_succ])
  refine linp_turnD (i := 7) (d := some 106) [] (fun u k => u = .int .i64 0 ∧ k = 2) rfl rfl (by kernel_rfl) (by kernel_rfl) rfl (by kernel_rfl) (⟨_, _, rfl, rfl⟩) (by kernel_rfl) (fun w' hS => givesP_call (f := 56) (args := #[.pointer (some ⟨E.R, 0, none⟩), .int .i64 f, .int .i64 n]) (by go_simp <;> rfl) ((HL.out _ hS.2).mono fun e w2 hh => Or.inr ⟨_, hh.1, rfl, hS.end_ hh.2⟩)) ?_
  rintro _ _ ⟨rfl, rfl⟩
  (try simp only [Act.put, List.setIfInBounds_toArray, List.set_cons_zero, List.set_cons_succ])
  refine linp_done (by kernel_rfl) ?_
  intro w' hS
  exact hS.2.elim
set_option maxHeartbeats 4000000 in
theorem do_52_num (h : RunAt E S s W) {y : Nat} (d sr f im : Int) (hn : ∀ W', Below W.heap.size W W' → Calls Try.prog 53 #[.pointer (some ⟨E.R, 0, none⟩), .int .i64 sr] W' fun e w' => e = whyE y ∧ Below W'.heap.size W' w') : Calls Try.prog 49 #[.pointer (some ⟨E.R, 0, none⟩), .agg #[.int .i64 52, .int .i64 d, .int .i64 sr, .int .i64 f, .int .i64 im]] W fun e w' => e = whyE y ∧ RunTo E S W s w' := by
  have H := Lib.hid h
  have HX := Lib.hid (Yq.boxS_new W (⟨52, d, sr, f, im⟩ : Y.In) 64)
  have HNO : Hid (¬ Own E S W.heap.size) := Lib.hid (fun hk => by have := h.ownLt hk; omega)
  have HN := Lib.hid hn
  clear h hn
  go_enter Try.func49, Try.ntmps49
  go_upto_region 1 with fail
  generalize W.alloc (.cells #[.int .i64 52, .int .i64 d, .int .i64 sr, .int .i64 f, .int .i64 im] 64) = W1 at HX ⊢
  obtain ⟨c0, c1, c2, c3, c4⟩ := HX.out.cells
  go_upto_region 21 with fail
  clear c0 c1 c2 c3 c4
  refine wp_region_linp (DoS E S s W (⟨52, d, sr, f, im⟩ : Y.In)) (BadE E S s W y) (fun i => i == 6 || i == 7) (fun i => [.pointer (some ⟨E.R, 0, none⟩), .pointer (some ⟨W.heap.size, 3, none⟩), .int .i64 f, .pointer (some ⟨E.R, 0, none⟩), .pointer (some ⟨W.heap.size, 2, none⟩), .int .i64 sr, undef, undef].getD i undef) (0) (by kernel_rfl) (by kernel_rfl) (fun ch a' w' hd hb => by
    obtain ⟨he, hb⟩ := hb
    injection he with he
    subst he
    exact ⟨hd, rfl, hb⟩) (DoS.start HX.out) ?_
  refine linp_step (i := 0) (d := some 99) (v := .pointer (some ⟨E.R, 0, none⟩)) rfl rfl (by kernel_rfl) (by kernel_rfl) rfl rfl (ord_value (by kernel_rfl) ?_) ?_
  · (intro s' w' hS; go_simp)
  (try simp only [Act.put, List.setIfInBounds_toArray, List.set_cons_zero, List.set_cons_succ])
  refine linp_step (i := 1) (d := some 100) (v := .pointer (some ⟨W.heap.size, 3, none⟩)) rfl rfl (by kernel_rfl) (by kernel_rfl) rfl rfl (ord_value (by kernel_rfl) ?_) ?_
  · (intro s' w' hS; go_simp)
  (try simp only [Act.put, List.setIfInBounds_toArray, List.set_cons_zero, List.set_cons_succ])
  refine linp_step (i := 2) (d := some 101) (v := .int .i64 f) rfl rfl (by kernel_rfl) (by kernel_rfl) rfl rfl (ord_value (by kernel_rfl) ?_) ?_
  · (intro s' w' hS; (obtain ⟨c0, c1, c2, c3, c4⟩ := hS.cells; go_simp))
  (try simp only [Act.put, List.setIfInBounds_toArray, List.set_cons_zero, List.set_cons_succ])
  refine linp_step (i := 3) (d := some 102) (v := .pointer (some ⟨E.R, 0, none⟩)) rfl rfl (by kernel_rfl) (by kernel_rfl) rfl rfl (ord_value (by kernel_rfl) ?_) ?_
  · (intro s' w' hS; go_simp)
  (try simp only [Act.put, List.setIfInBounds_toArray, List.set_cons_zero, List.set_cons_succ])
  refine linp_step (i := 4) (d := some 103) (v := .pointer (some ⟨W.heap.size, 2, none⟩)) rfl rfl (by kernel_rfl) (by kernel_rfl) rfl rfl (ord_value (by kernel_rfl) ?_) ?_
  · (intro s' w' hS; go_simp)
  (try simp only [Act.put, List.setIfInBounds_toArray, List.set_cons_zero, List.set_cons_succ])
  refine linp_step (i := 5) (d := some 104) (v := .int .i64 sr) rfl rfl (by kernel_rfl) (by kernel_rfl) rfl rfl (ord_value (by kernel_rfl) ?_) ?_
  · (intro s' w' hS; (obtain ⟨c0, c1, c2, c3, c4⟩ := hS.cells; go_simp))
  (try simp only [Act.put, List.setIfInBounds_toArray, List.set_cons_zero, List.set_cons_succ])
  refine linp_turnD (i := 6) (d := some 105) [7] (fun u k => u = .int .i64 0 ∧ k = 2) rfl rfl (by kernel_rfl) (by kernel_rfl) rfl (by kernel_rfl) (⟨_, _, rfl, rfl⟩) (by kernel_rfl) (fun w' hS => givesP_call (f := 53) (args := #[.pointer (some ⟨E.R, 0, none⟩), .int .i64 sr]) (by go_simp <;> rfl) ((HN.out _ hS.2).mono fun e w2 hh => Or.inr ⟨_, hh.1, rfl, RunTo.self H.out (hS.2.trans (hh.2.mono hS.2.size))⟩)) ?_
  rintro _ _ ⟨rfl, rfl⟩
  (try simp only [Act.put, List.setIfInBounds_toArray, List.set_cons_zero, List.set_cons_succ])
  refine linp_turnD (i := 7) (d := some 106) [] (fun u k => u = .int .i64 0 ∧ k = 2) rfl rfl (by kernel_rfl) (by kernel_rfl) rfl (by kernel_rfl) (⟨_, _, rfl, rfl⟩) (by kernel_rfl) (fun w' hS => hS.2.elim) ?_
  rintro _ _ ⟨rfl, rfl⟩
  (try simp only [Act.put, List.setIfInBounds_toArray, List.set_cons_zero, List.set_cons_succ])
  refine linp_done (by kernel_rfl) ?_
  intro w' hS
  exact hS.2.elim
end
end Go.Proofs.Ythngbakbiocadaa
