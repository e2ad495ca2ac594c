/-
  What an instruction does: the others.
-/
import Derived.Test.YthngbakbiocadaaMr
import Derived.Test.YthngbakbiocadaaMs

namespace Go.Proofs.Ythngbakbiocadaa
set_option maxRecDepth 100000
open Go.ChangeShapes Go.WideShapes Go.ChangeAt Go.RowKit Go.Maps
open V
section
variable {E : Ev} {S : Nat → Prop} {s t : V.St} {W : World}
set_option maxHeartbeats 4000000 in
theorem do_1_no (h : RunAt E S s W) {y : Nat} (d sr f im : Int) (ha : ∀ W', Below W.heap.size W W' → ∀ t, Calls Try.prog 50 #[.pointer (some ⟨E.R, 0, none⟩), .slice (some ⟨W'.heap.size, 0, none⟩) 1 1] (W'.alloc (.cells #[.int .i64 sr] t)) fun e w' => e = whyE y ∧ Below W'.heap.size W' w') : Calls Try.prog 49 #[.pointer (some ⟨E.R, 0, none⟩), .agg #[.int .i64 1, .int .i64 d, .int .i64 sr, .int .i64 f, .int .i64 im]] W fun e w' => e = whyE y ∧ Below W.heap.size W w' := by
  have H := Lib.hid h
  have HX := Lib.hid (Yq.boxS_new W (⟨1, d, sr, f, im⟩ : Y.In) 64)
  have HNO : Hid (¬ Own E S W.heap.size) := Lib.hid (fun hk => by have := h.ownLt hk; omega)
  have HA := Lib.hid ha
  clear h ha
  go_enter Try.func49, Try.ntmps49
  go_upto_region 1 with fail
  generalize W.alloc (.cells #[.int .i64 1, .int .i64 d, .int .i64 sr, .int .i64 f, .int .i64 im] 64) = W1 at HX ⊢
  obtain ⟨c0, c1, c2, c3, c4⟩ := HX.out.cells
  go_wp2_with (go_at_call 50; (with_reducible refine (HA.out _ HX.out.bel _).mono ?_); rintro e w2 ⟨rfl, hb⟩; exact ⟨rfl, rfl, HX.out.bel.trans (hb.mono HX.out.bel.size)⟩)
set_option maxHeartbeats 4000000 in
theorem do_1_ok (hE : EvOk E) (h : RunAt E S s W) (i j : Nat) (hi : i < 8) (hj : j < 8) (f im : Int) (c : V.Cell) (hc : s.r (i : Int) = c) (ha : ∀ W', Below W.heap.size W W' → ∀ t, Calls Try.prog 50 #[.pointer (some ⟨E.R, 0, none⟩), .slice (some ⟨W'.heap.size, 0, none⟩) 1 1] (W'.alloc (.cells #[.int .i64 (i : Int)] t)) fun e w' => e = .returned (.tuple #[]) ∧ Below W'.heap.size W' w') : Calls Try.prog 49 #[.pointer (some ⟨E.R, 0, none⟩), .agg #[.int .i64 1, .int .i64 (j : Int), .int .i64 (i : Int), .int .i64 f, .int .i64 im]] W fun e w' => e = .returned (.tuple #[]) ∧ RunTo E S W (s.setR (j : Int) c) w' := by
  have hR := fun W' (hb : Below W.heap.size W W') => (h.step hb).regs i hi
  rw [← r_nat, hc] at hR
  have HR := Lib.hid hR
  have HRF : Hid (∀ k m, c = .ref k m → m < s.ds.length) := Lib.hid (fun k m e => by
    obtain ⟨d, hd⟩ := ds_of h (hc.trans e)
    exact (List.getElem?_eq_some_iff.1 hd).1)
  have hi0 : (0 : Int) ≤ (i : Int) := by omega
  have hi8 : (i : Int) < 8 := by omega
  have hj0 : (0 : Int) ≤ (j : Int) := by omega
  have hj8 : (j : Int) < 8 := by omega
  have HI := Lib.hid hi
  have HJ := Lib.hid hj
  obtain ⟨L, hL⟩ : ∃ L, Hid (cellL E.bs c = L) := ⟨_, Lib.hid rfl⟩
  have HL3 : Hid (L.length = 3) := Lib.hid (by rw [← hL.out]; exact cellL_length _ _)
  have HLO : Hid (∀ v ∈ L, v.oneCell' = true) := Lib.hid (by rw [← hL.out]; exact cellL_one _ _)
  rw [hL.out] at HR
  have H := Lib.hid h
  have HA := Lib.hid ha
  have HX := Lib.hid (Yq.boxS_new W (⟨1, (j : Int), (i : Int), f, im⟩ : Y.In) 64)
  clear h hR hc ha hi hj
  go_enter Try.func49, Try.ntmps49
  go_upto_region 1 with fail
  generalize W.alloc (.cells #[.int .i64 1, .int .i64 (j : Int), .int .i64 (i : Int), .int .i64 f, .int .i64 im] 64) = W1 at HX ⊢
  obtain ⟨c0, c1, c2, c3, c4⟩ := HX.out.cells
  go_upto_region 7 with (go_at_call 50; (with_reducible refine (HA.out _ HX.out.bel _).mono ?_); rintro e w2 ⟨rfl, hb⟩; have HX2 := Lib.hid (HX.out.call hb); clear hb HX c0 c1 c2 c3 c4)
  have HX3 := Lib.hid (HX2.out.call (drew_below _))
  have HB3 := Lib.hid HX3.out.bel
  obtain ⟨c0, c1, c2, c3, c4⟩ := HX3.out.cells
  have HC := Lib.hid (HR.out _ HB3.out)
  have H3 := H.out.step HB3.out
  have HTH := Lib.hid (H3.regThere j HJ.out)
  have HTO : Hid (RunTo E S w2.drew (s.setR (j : Int) c) (w2.drew.setCells E.R (5 + j * 3) L)) := Lib.hid (by
    have := H3.setR hE j HJ.out c HRF.out
    rw [hL.out] at this
    exact this)
  clear H3
  refine ws_region 13 (by kernel_rfl) ?_
  simp only [List.take_succ_cons, List.take_zero, List.drop_succ_cons, List.drop_zero]
  refine ws_take (.pointer (some ⟨E.R, 0, none⟩)) (by kernel_rfl) ?_ ?_
  · (go_simp)
  (try simp only [Act.put, List.setIfInBounds_toArray, List.set_cons_zero, List.set_cons_succ])
  refine ws_take (.pointer (some ⟨W.heap.size, 1, none⟩)) (by kernel_rfl) ?_ ?_
  · (go_simp)
  (try simp only [Act.put, List.setIfInBounds_toArray, List.set_cons_zero, List.set_cons_succ])
  refine ws_take (.int .i64 (j : Int)) (by kernel_rfl) ?_ ?_
  · (go_simp)
  (try simp only [Act.put, List.setIfInBounds_toArray, List.set_cons_zero, List.set_cons_succ])
  refine ws_take (.pointer (some ⟨E.R, 0, none⟩)) (by kernel_rfl) ?_ ?_
  · (go_simp)
  (try simp only [Act.put, List.setIfInBounds_toArray, List.set_cons_zero, List.set_cons_succ])
  refine ws_take (.pointer (some ⟨W.heap.size, 2, none⟩)) (by kernel_rfl) ?_ ?_
  · (go_simp)
  (try simp only [Act.put, List.setIfInBounds_toArray, List.set_cons_zero, List.set_cons_succ])
  refine ws_take (.int .i64 (i : Int)) (by kernel_rfl) ?_ ?_
  · (go_simp)
  (try simp only [Act.put, List.setIfInBounds_toArray, List.set_cons_zero, List.set_cons_succ])
  refine ws_take (.pointer (some ⟨E.R, 0, none⟩)) (by kernel_rfl) ?_ ?_
  · (go_simp)
  (try simp only [Act.put, List.setIfInBounds_toArray, List.set_cons_zero, List.set_cons_succ])
  refine ws_take (.pointer (some ⟨E.R, 5, none⟩)) (by kernel_rfl) ?_ ?_
  · (go_simp)
  (try simp only [Act.put, List.setIfInBounds_toArray, List.set_cons_zero, List.set_cons_succ])
  refine ws_take (.pointer (some ⟨E.R, 5 + i * 3, none⟩)) (by kernel_rfl) ?_ ?_
  · (go_simp)
  (try simp only [Act.put, List.setIfInBounds_toArray, List.set_cons_zero, List.set_cons_succ])
  refine ws_at vvT (vs := L) HL3.out (.tmp 30) rfl rfl (by kernel_rfl) HC.out ?_
  (try simp only [Act.put, List.setIfInBounds_toArray, List.set_cons_zero, List.set_cons_succ])
  refine ws_take (.pointer (some ⟨E.R, 0, none⟩)) (by kernel_rfl) ?_ ?_
  · (go_simp)
  (try simp only [Act.put, List.setIfInBounds_toArray, List.set_cons_zero, List.set_cons_succ])
  refine ws_take (.pointer (some ⟨E.R, 5, none⟩)) (by kernel_rfl) ?_ ?_
  · (go_simp)
  (try simp only [Act.put, List.setIfInBounds_toArray, List.set_cons_zero, List.set_cons_succ])
  refine ws_take (.pointer (some ⟨E.R, 5 + j * 3, none⟩)) (by kernel_rfl) ?_ ?_
  · (go_simp)
  (try simp only [Act.put, List.setIfInBounds_toArray, List.set_cons_zero, List.set_cons_succ])
  refine ws_nil ?_
  go_wp2_with ((with_reducible refine wpList_store_at vvT (vs := L) HTH.out HL3.out HLO.out rfl (.tmp 34) (.tmp 31) rfl ?_ ?_ ?_); (exact rfl); (exact rfl))
  go_end0
  exact ⟨rfl, RunTo.back HB3.out HTO.out⟩
set_option maxHeartbeats 4000000 in
theorem do_2 (h : RunAt E S s W) (d sr f im : Int) (hl : ∀ W', Below W.heap.size W W' → Calls Try.prog 51 #[.pointer (some ⟨E.R, 0, none⟩), .int .i64 d, .int .i64 im] W' fun e w' => e = .returned (.tuple #[]) ∧ RunTo E S W' t w') : Calls Try.prog 49 #[.pointer (some ⟨E.R, 0, none⟩), .agg #[.int .i64 2, .int .i64 d, .int .i64 sr, .int .i64 f, .int .i64 im]] W fun e w' => e = .returned (.tuple #[]) ∧ RunTo E S W t w' := by
  have H := Lib.hid h
  have HX := Lib.hid (Yq.boxS_new W (⟨2, d, sr, f, im⟩ : Y.In) 64)
  have HNO : Hid (¬ Own E S W.heap.size) := Lib.hid (fun hk => by have := h.ownLt hk; omega)
  have HL := Lib.hid hl
  clear h hl
  go_enter Try.func49, Try.ntmps49
  go_upto_region 1 with fail
  generalize W.alloc (.cells #[.int .i64 2, .int .i64 d, .int .i64 sr, .int .i64 f, .int .i64 im] 64) = W1 at HX ⊢
  obtain ⟨c0, c1, c2, c3, c4⟩ := HX.out.cells
  go_wp2_with (go_at_call 51; (with_reducible refine (HL.out _ HX.out.bel).mono ?_); rintro e w3 ⟨rfl, hto⟩; have HT := Lib.hid hto; clear hto)
  go_end0
  exact ⟨rfl, RunTo.back HX.out.bel HT.out⟩
set_option maxHeartbeats 4000000 in
theorem do_54_no (h : RunAt E S s W) {y : Nat} (d sr f im : Int) (hn : ∀ W', Below W.heap.size W W' → Calls Try.prog 57 #[.pointer (some ⟨E.R, 0, none⟩), .int .i64 d, .int .i64 sr] W' fun e w' => e = whyE y ∧ Below W'.heap.size W' w') : Calls Try.prog 49 #[.pointer (some ⟨E.R, 0, none⟩), .agg #[.int .i64 54, .int .i64 d, .int .i64 sr, .int .i64 f, .int .i64 im]] W fun e w' => e = whyE y ∧ Below W.heap.size W w' := by
  have H := Lib.hid h
  have HX := Lib.hid (Yq.boxS_new W (⟨54, d, sr, f, im⟩ : Y.In) 64)
  have HNO : Hid (¬ Own E S W.heap.size) := Lib.hid (fun hk => by have := h.ownLt hk; omega)
  have HN := Lib.hid hn
  clear h hn
  go_enter Try.func49, Try.ntmps49
  go_upto_region 1 with fail
  generalize W.alloc (.cells #[.int .i64 54, .int .i64 d, .int .i64 sr, .int .i64 f, .int .i64 im] 64) = W1 at HX ⊢
  obtain ⟨c0, c1, c2, c3, c4⟩ := HX.out.cells
  go_wp2_with (go_at_call 57; (with_reducible refine (HN.out _ HX.out.bel).mono ?_); rintro e w2 ⟨rfl, hb⟩; exact ⟨rfl, rfl, HX.out.bel.trans (hb.mono HX.out.bel.size)⟩)
set_option maxHeartbeats 4000000 in
theorem do_54_ok (h : RunAt E S s W) (a b : Int) (d sr f im : Int) (hn : ∀ W', Below W.heap.size W W' → Calls Try.prog 57 #[.pointer (some ⟨E.R, 0, none⟩), .int .i64 d, .int .i64 sr] W' fun e w' => e = .returned (.tuple #[.int .i64 a, .int .i64 b]) ∧ Below W'.heap.size W' w') (hl : ∀ W', Below W.heap.size W W' → Calls Try.prog 56 #[.pointer (some ⟨E.R, 0, none⟩), .int .i64 a, .int .i64 b] W' fun e w' => e = .returned (.tuple #[]) ∧ RunTo E S W' t w') : Calls Try.prog 49 #[.pointer (some ⟨E.R, 0, none⟩), .agg #[.int .i64 54, .int .i64 d, .int .i64 sr, .int .i64 f, .int .i64 im]] W fun e w' => e = .returned (.tuple #[]) ∧ RunTo E S W t w' := by
  have H := Lib.hid h
  have HX := Lib.hid (Yq.boxS_new W (⟨54, d, sr, f, im⟩ : Y.In) 64)
  have HNO : Hid (¬ Own E S W.heap.size) := Lib.hid (fun hk => by have := h.ownLt hk; omega)
  have HN := Lib.hid hn
  have HL := Lib.hid hl
  clear h hn hl
  go_enter Try.func49, Try.ntmps49
  go_upto_region 1 with fail
  generalize W.alloc (.cells #[.int .i64 54, .int .i64 d, .int .i64 sr, .int .i64 f, .int .i64 im] 64) = W1 at HX ⊢
  obtain ⟨c0, c1, c2, c3, c4⟩ := HX.out.cells
  go_wp2_with (first | (go_at_call 57; (with_reducible refine (HN.out _ HX.out.bel).mono ?_); rintro e w2 ⟨rfl, hb⟩; have HX2 := Lib.hid (HX.out.call hb); clear hb c0 c1 c2 c3 c4) | (go_at_call 56; (with_reducible refine (HL.out _ HX2.out.bel).mono ?_); rintro e w3 ⟨rfl, hto⟩; have HT := Lib.hid hto; clear hto))
  go_end0
  exact ⟨rfl, RunTo.back HX2.out.bel HT.out⟩
set_option maxHeartbeats 4000000 in
theorem do_54_out (h : RunAt E S s W) {y : Nat} (a b : Int) (d sr f im : Int) (hn : ∀ W', Below W.heap.size W W' → Calls Try.prog 57 #[.pointer (some ⟨E.R, 0, none⟩), .int .i64 d, .int .i64 sr] W' fun e w' => e = .returned (.tuple #[.int .i64 a, .int .i64 b]) ∧ Below W'.heap.size W' w') (hl : ∀ W', Below W.heap.size W W' → Calls Try.prog 56 #[.pointer (some ⟨E.R, 0, none⟩), .int .i64 a, .int .i64 b] W' fun e w' => e = whyE y ∧ RunTo E S W' t w') : Calls Try.prog 49 #[.pointer (some ⟨E.R, 0, none⟩), .agg #[.int .i64 54, .int .i64 d, .int .i64 sr, .int .i64 f, .int .i64 im]] W fun e w' => e = whyE y ∧ RunTo E S W t w' := by
  have H := Lib.hid h
  have HX := Lib.hid (Yq.boxS_new W (⟨54, d, sr, f, im⟩ : Y.In) 64)
  have HNO : Hid (¬ Own E S W.heap.size) := Lib.hid (fun hk => by have := h.ownLt hk; omega)
  have HN := Lib.hid hn
  have HL := Lib.hid hl
  clear h hn hl
  go_enter Try.func49, Try.ntmps49
  go_upto_region 1 with fail
  generalize W.alloc (.cells #[.int .i64 54, .int .i64 d, .int .i64 sr, .int .i64 f, .int .i64 im] 64) = W1 at HX ⊢
  obtain ⟨c0, c1, c2, c3, c4⟩ := HX.out.cells
  go_wp2_with (first | (go_at_call 57; (with_reducible refine (HN.out _ HX.out.bel).mono ?_); rintro e w2 ⟨rfl, hb⟩; have HX2 := Lib.hid (HX.out.call hb); clear hb c0 c1 c2 c3 c4) | (go_at_call 56; (with_reducible refine (HL.out _ HX2.out.bel).mono ?_); rintro e w3 ⟨rfl, hto⟩; exact ⟨rfl, rfl, RunTo.back HX2.out.bel hto⟩))
set_option maxHeartbeats 4000000 in
theorem do_55_ok (h : RunAt E S s W) (d sr f im : Int) (hl : ∀ W', Below W.heap.size W W' → Calls Try.prog 58 #[.pointer (some ⟨E.R, 0, none⟩), .agg #[.int .i64 55, .int .i64 d, .int .i64 sr, .int .i64 f, .int .i64 im]] W' fun e w' => e = .returned (.tuple #[]) ∧ RunTo E S W' t w') : Calls Try.prog 49 #[.pointer (some ⟨E.R, 0, none⟩), .agg #[.int .i64 55, .int .i64 d, .int .i64 sr, .int .i64 f, .int .i64 im]] W fun e w' => e = .returned (.tuple #[]) ∧ RunTo E S W t w' := by
  have H := Lib.hid h
  have HX := Lib.hid (Yq.boxS_new W (⟨55, d, sr, f, im⟩ : Y.In) 64)
  have HNO : Hid (¬ Own E S W.heap.size) := Lib.hid (fun hk => by have := h.ownLt hk; omega)
  have HL := Lib.hid hl
  clear h hl
  go_enter Try.func49, Try.ntmps49
  go_upto_region 1 with fail
  generalize W.alloc (.cells #[.int .i64 55, .int .i64 d, .int .i64 sr, .int .i64 f, .int .i64 im] 64) = W1 at HX ⊢
  obtain ⟨c0, c1, c2, c3, c4⟩ := HX.out.cells
  go_wp2_with (go_at_call 58; (with_reducible refine (HL.out _ HX.out.bel).mono ?_); rintro e w3 ⟨rfl, hto⟩; have HT := Lib.hid hto; clear hto)
  go_end0
  exact ⟨rfl, RunTo.back HX.out.bel HT.out⟩
set_option maxHeartbeats 4000000 in
theorem do_55_no (h : RunAt E S s W) {y : Nat} (d sr f im : Int) (hl : ∀ W', Below W.heap.size W W' → Calls Try.prog 58 #[.pointer (some ⟨E.R, 0, none⟩), .agg #[.int .i64 55, .int .i64 d, .int .i64 sr, .int .i64 f, .int .i64 im]] W' fun e w' => e = whyE y ∧ RunTo E S W' t w') : Calls Try.prog 49 #[.pointer (some ⟨E.R, 0, none⟩), .agg #[.int .i64 55, .int .i64 d, .int .i64 sr, .int .i64 f, .int .i64 im]] W fun e w' => e = whyE y ∧ RunTo E S W t w' := by
  have H := Lib.hid h
  have HX := Lib.hid (Yq.boxS_new W (⟨55, d, sr, f, im⟩ : Y.In) 64)
  have HNO : Hid (¬ Own E S W.heap.size) := Lib.hid (fun hk => by have := h.ownLt hk; omega)
  have HL := Lib.hid hl
  clear h hl
  go_enter Try.func49, Try.ntmps49
  go_upto_region 1 with fail
  generalize W.alloc (.cells #[.int .i64 55, .int .i64 d, .int .i64 sr, .int .i64 f, .int .i64 im] 64) = W1 at HX ⊢
  obtain ⟨c0, c1, c2, c3, c4⟩ := HX.out.cells
  go_wp2_with (go_at_call 58; (with_reducible refine (HL.out _ HX.out.bel).mono ?_); rintro e w3 ⟨rfl, hto⟩; exact ⟨rfl, rfl, RunTo.back HX.out.bel hto⟩)
set_option maxHeartbeats 4000000 in
theorem do_56_ok (h : RunAt E S s W) (d sr f im : Int) (hl : ∀ W', Below W.heap.size W W' → Calls Try.prog 59 #[.pointer (some ⟨E.R, 0, none⟩), .agg #[.int .i64 56, .int .i64 d, .int .i64 sr, .int .i64 f, .int .i64 im]] W' fun e w' => e = .returned (.tuple #[]) ∧ RunTo E S W' t w') : Calls Try.prog 49 #[.pointer (some ⟨E.R, 0, none⟩), .agg #[.int .i64 56, .int .i64 d, .int .i64 sr, .int .i64 f, .int .i64 im]] W fun e w' => e = .returned (.tuple #[]) ∧ RunTo E S W t w' := by
  have H := Lib.hid h
  have HX := Lib.hid (Yq.boxS_new W (⟨56, d, sr, f, im⟩ : Y.In) 64)
  have HNO : Hid (¬ Own E S W.heap.size) := Lib.hid (fun hk => by have := h.ownLt hk; omega)
  have HL := Lib.hid hl
  clear h hl
  go_enter Try.func49, Try.ntmps49
  go_upto_region 1 with fail
  generalize W.alloc (.cells #[.int .i64 56, .int .i64 d, .int .i64 sr, .int .i64 f, .int .i64 im] 64) = W1 at HX ⊢
  obtain ⟨c0, c1, c2, c3, c4⟩ := HX.out.cells
  go_wp2_with (go_at_call 59; (with_reducible refine (HL.out _ HX.out.bel).mono ?_); rintro e w3 ⟨rfl, hto⟩; have HT := Lib.hid hto; clear hto)
  go_end0
  exact ⟨rfl, RunTo.back HX.out.bel HT.out⟩
set_option maxHeartbeats 4000000 in
theorem do_56_no (h : RunAt E S s W) {y : Nat} (d sr f im : Int) (hl : ∀ W', Below W.heap.size W W' → Calls Try.prog 59 #[.pointer (some ⟨E.R, 0, none⟩), .agg #[.int .i64 56, .int .i64 d, .int .i64 sr, .int .i64 f, .int .i64 im]] W' fun e w' => e = whyE y ∧ RunTo E S W' t w') : Calls Try.prog 49 #[.pointer (some ⟨E.R, 0, none⟩), .agg #[.int .i64 56, .int .i64 d, .int .i64 sr, .int .i64 f, .int .i64 im]] W fun e w' => e = whyE y ∧ RunTo E S W t w' := by
  have H := Lib.hid h
  have HX := Lib.hid (Yq.boxS_new W (⟨56, d, sr, f, im⟩ : Y.In) 64)
  have HNO : Hid (¬ Own E S W.heap.size) := Lib.hid (fun hk => by have := h.ownLt hk; omega)
  have HL := Lib.hid hl
  clear h hl
  go_enter Try.func49, Try.ntmps49
  go_upto_region 1 with fail
  generalize W.alloc (.cells #[.int .i64 56, .int .i64 d, .int .i64 sr, .int .i64 f, .int .i64 im] 64) = W1 at HX ⊢
  obtain ⟨c0, c1, c2, c3, c4⟩ := HX.out.cells
  go_wp2_with (go_at_call 59; (with_reducible refine (HL.out _ HX.out.bel).mono ?_); rintro e w3 ⟨rfl, hto⟩; exact ⟨rfl, rfl, RunTo.back HX.out.bel hto⟩)
set_option maxHeartbeats 4000000 in
theorem do_64_ok (h : RunAt E S s W) (d sr f im : Int) (hl : ∀ W', Below W.heap.size W W' → Calls Try.prog 60 #[.pointer (some ⟨E.R, 0, none⟩), .int .i64 im] W' fun e w' => e = .returned (.tuple #[]) ∧ RunTo E S W' t w') : Calls Try.prog 49 #[.pointer (some ⟨E.R, 0, none⟩), .agg #[.int .i64 64, .int .i64 d, .int .i64 sr, .int .i64 f, .int .i64 im]] W fun e w' => e = .returned (.tuple #[]) ∧ RunTo E S W t w' := by
  have H := Lib.hid h
  have HX := Lib.hid (Yq.boxS_new W (⟨64, d, sr, f, im⟩ : Y.In) 64)
  have HNO : Hid (¬ Own E S W.heap.size) := Lib.hid (fun hk => by have := h.ownLt hk; omega)
  have HL := Lib.hid hl
  clear h hl
  go_enter Try.func49, Try.ntmps49
  go_upto_region 1 with fail
  generalize W.alloc (.cells #[.int .i64 64, .int .i64 d, .int .i64 sr, .int .i64 f, .int .i64 im] 64) = W1 at HX ⊢
  obtain ⟨c0, c1, c2, c3, c4⟩ := HX.out.cells
  go_wp2_with (go_at_call 60; (with_reducible refine (HL.out _ HX.out.bel).mono ?_); rintro e w3 ⟨rfl, hto⟩; have HT := Lib.hid hto; clear hto)
  go_end0
  exact ⟨rfl, RunTo.back HX.out.bel HT.out⟩
set_option maxHeartbeats 4000000 in
theorem do_64_no (h : RunAt E S s W) {y : Nat} (d sr f im : Int) (hl : ∀ W', Below W.heap.size W W' → Calls Try.prog 60 #[.pointer (some ⟨E.R, 0, none⟩), .int .i64 im] W' fun e w' => e = whyE y ∧ RunTo E S W' t w') : Calls Try.prog 49 #[.pointer (some ⟨E.R, 0, none⟩), .agg #[.int .i64 64, .int .i64 d, .int .i64 sr, .int .i64 f, .int .i64 im]] W fun e w' => e = whyE y ∧ RunTo E S W t w' := by
  have H := Lib.hid h
  have HX := Lib.hid (Yq.boxS_new W (⟨64, d, sr, f, im⟩ : Y.In) 64)
  have HNO : Hid (¬ Own E S W.heap.size) := Lib.hid (fun hk => by have := h.ownLt hk; omega)
  have HL := Lib.hid hl
  clear h hl
  go_enter Try.func49, Try.ntmps49
  go_upto_region 1 with fail
  generalize W.alloc (.cells #[.int .i64 64, .int .i64 d, .int .i64 sr, .int .i64 f, .int .i64 im] 64) = W1 at HX ⊢
  obtain ⟨c0, c1, c2, c3, c4⟩ := HX.out.cells
  go_wp2_with (go_at_call 60; (with_reducible refine (HL.out _ HX.out.bel).mono ?_); rintro e w3 ⟨rfl, hto⟩; exact ⟨rfl, rfl, RunTo.back HX.out.bel hto⟩)
set_option maxHeartbeats 4000000 in
theorem do_80_no (h : RunAt E S s W) {y : Nat} (d sr f im : Int) (hl : ∀ W', Below W.heap.size W W' → Calls Try.prog 61 #[.pointer (some ⟨E.R, 0, none⟩)] W' fun e w' => e = whyE y ∧ RunTo E S W' t w') : Calls Try.prog 49 #[.pointer (some ⟨E.R, 0, none⟩), .agg #[.int .i64 80, .int .i64 d, .int .i64 sr, .int .i64 f, .int .i64 im]] W fun e w' => e = whyE y ∧ RunTo E S W t w' := by
  have H := Lib.hid h
  have HX := Lib.hid (Yq.boxS_new W (⟨80, d, sr, f, im⟩ : Y.In) 64)
  have HNO : Hid (¬ Own E S W.heap.size) := Lib.hid (fun hk => by have := h.ownLt hk; omega)
  have HL := Lib.hid hl
  clear h hl
  go_enter Try.func49, Try.ntmps49
  go_upto_region 1 with fail
  generalize W.alloc (.cells #[.int .i64 80, .int .i64 d, .int .i64 sr, .int .i64 f, .int .i64 im] 64) = W1 at HX ⊢
  obtain ⟨c0, c1, c2, c3, c4⟩ := HX.out.cells
  go_wp2_with (go_at_call 61; (with_reducible refine (HL.out _ HX.out.bel).mono ?_); rintro e w3 ⟨rfl, hto⟩; exact ⟨rfl, rfl, RunTo.back HX.out.bel hto⟩)
set_option maxHeartbeats 4000000 in
theorem do_80_ok (h : RunAt E S s W) {y : Int} (d sr f im : Int) (hl : ∀ W', Below W.heap.size W W' → Calls Try.prog 61 #[.pointer (some ⟨E.R, 0, none⟩)] W' fun e w' => e = verE y ∧ RunTo E S W' t w') : Calls Try.prog 49 #[.pointer (some ⟨E.R, 0, none⟩), .agg #[.int .i64 80, .int .i64 d, .int .i64 sr, .int .i64 f, .int .i64 im]] W fun e w' => e = verE y ∧ RunTo E S W t w' := by
  have H := Lib.hid h
  have HX := Lib.hid (Yq.boxS_new W (⟨80, d, sr, f, im⟩ : Y.In) 64)
  have HNO : Hid (¬ Own E S W.heap.size) := Lib.hid (fun hk => by have := h.ownLt hk; omega)
  have HL := Lib.hid hl
  clear h hl
  go_enter Try.func49, Try.ntmps49
  go_upto_region 1 with fail
  generalize W.alloc (.cells #[.int .i64 80, .int .i64 d, .int .i64 sr, .int .i64 f, .int .i64 im] 64) = W1 at HX ⊢
  obtain ⟨c0, c1, c2, c3, c4⟩ := HX.out.cells
  go_wp2_with (go_at_call 61; (with_reducible refine (HL.out _ HX.out.bel).mono ?_); rintro e w3 ⟨rfl, hto⟩; exact ⟨rfl, rfl, RunTo.back HX.out.bel hto⟩)
set_option maxHeartbeats 4000000 in
theorem do_jmp_ok (h : RunAt E S s W) (o : Int) (d sr f im : Int) (h1 : (o == 1) = false) (h2 : (o == 2) = false) (h48 : (o == 48) = false) (h50 : (o == 50) = false) (h49 : (o == 49) = false) (h51 : (o == 51) = false) (h53 : (o == 53) = false) (h52 : (o == 52) = false) (h54 : (o == 54) = false) (h55 : (o == 55) = false) (h56 : (o == 56) = false) (h64 : (o == 64) = false) (h80 : (o == 80) = false) (hj : Y.isJump o = true) (hl : ∀ W', Below W.heap.size W W' → Calls Try.prog 63 #[.pointer (some ⟨E.R, 0, none⟩), .agg #[.int .i64 o, .int .i64 d, .int .i64 sr, .int .i64 f, .int .i64 im]] W' fun e w' => e = .returned (.tuple #[]) ∧ RunTo E S W' t w') : Calls Try.prog 49 #[.pointer (some ⟨E.R, 0, none⟩), .agg #[.int .i64 o, .int .i64 d, .int .i64 sr, .int .i64 f, .int .i64 im]] W fun e w' => e = .returned (.tuple #[]) ∧ RunTo E S W t w' := by
  have H := Lib.hid h
  have HJ := Lib.hid hj
  clear hj
  have HX := Lib.hid (Yq.boxS_new W (⟨o, d, sr, f, im⟩ : Y.In) 64)
  have HNO : Hid (¬ Own E S W.heap.size) := Lib.hid (fun hk => by have := h.ownLt hk; omega)
  have HL := Lib.hid hl
  clear h hl
  go_enter Try.func49, Try.ntmps49
  go_upto_region 1 with fail
  generalize W.alloc (.cells #[.int .i64 o, .int .i64 d, .int .i64 sr, .int .i64 f, .int .i64 im] 64) = W1 at HX ⊢
  obtain ⟨c0, c1, c2, c3, c4⟩ := HX.out.cells
  go_wp2_with (first | (go_at_call 62; (with_reducible refine (Yq.isJump_any _ _).mono ?_); rw [HJ.out]; rintro e w2 ⟨rfl, hb⟩; replace HX := Lib.hid (HX.out.call hb); clear hb c0 c1 c2 c3 c4; obtain ⟨c0, c1, c2, c3, c4⟩ := HX.out.cells) | (go_at_call 63; (with_reducible refine (HL.out _ HX.out.bel).mono ?_); rintro e w3 ⟨rfl, hto⟩; have HT := Lib.hid hto; clear hto))
  go_end0
  exact ⟨rfl, RunTo.back HX.out.bel HT.out⟩
set_option maxHeartbeats 4000000 in
theorem do_jmp_no (h : RunAt E S s W) {y : Nat} (o : Int) (d sr f im : Int) (h1 : (o == 1) = false) (h2 : (o == 2) = false) (h48 : (o == 48) = false) (h50 : (o == 50) = false) (h49 : (o == 49) = false) (h51 : (o == 51) = false) (h53 : (o == 53) = false) (h52 : (o == 52) = false) (h54 : (o == 54) = false) (h55 : (o == 55) = false) (h56 : (o == 56) = false) (h64 : (o == 64) = false) (h80 : (o == 80) = false) (hj : Y.isJump o = true) (hl : ∀ W', Below W.heap.size W W' → Calls Try.prog 63 #[.pointer (some ⟨E.R, 0, none⟩), .agg #[.int .i64 o, .int .i64 d, .int .i64 sr, .int .i64 f, .int .i64 im]] W' fun e w' => e = whyE y ∧ RunTo E S W' t w') : Calls Try.prog 49 #[.pointer (some ⟨E.R, 0, none⟩), .agg #[.int .i64 o, .int .i64 d, .int .i64 sr, .int .i64 f, .int .i64 im]] W fun e w' => e = whyE y ∧ RunTo E S W t w' := by
  have H := Lib.hid h
  have HJ := Lib.hid hj
  clear hj
  have HX := Lib.hid (Yq.boxS_new W (⟨o, d, sr, f, im⟩ : Y.In) 64)
  have HNO : Hid (¬ Own E S W.heap.size) := Lib.hid (fun hk => by have := h.ownLt hk; omega)
  have HL := Lib.hid hl
  clear h hl
  go_enter Try.func49, Try.ntmps49
  go_upto_region 1 with fail
  generalize W.alloc (.cells #[.int .i64 o, .int .i64 d, .int .i64 sr, .int .i64 f, .int .i64 im] 64) = W1 at HX ⊢
  obtain ⟨c0, c1, c2, c3, c4⟩ := HX.out.cells
  go_wp2_with (first | (go_at_call 62; (with_reducible refine (Yq.isJump_any _ _).mono ?_); rw [HJ.out]; rintro e w2 ⟨rfl, hb⟩; replace HX := Lib.hid (HX.out.call hb); clear hb c0 c1 c2 c3 c4; obtain ⟨c0, c1, c2, c3, c4⟩ := HX.out.cells) | (go_at_call 63; (with_reducible refine (HL.out _ HX.out.bel).mono ?_); rintro e w3 ⟨rfl, hto⟩; exact ⟨rfl, rfl, RunTo.back HX.out.bel hto⟩))
set_option maxHeartbeats 4000000 in
theorem do_rec_ok (h : RunAt E S s W) (o : Int) (d sr f im : Int) (h1 : (o == 1) = false) (h2 : (o == 2) = false) (h48 : (o == 48) = false) (h50 : (o == 50) = false) (h49 : (o == 49) = false) (h51 : (o == 51) = false) (h53 : (o == 53) = false) (h52 : (o == 52) = false) (h54 : (o == 54) = false) (h55 : (o == 55) = false) (h56 : (o == 56) = false) (h64 : (o == 64) = false) (h80 : (o == 80) = false) (hj : Y.isJump o = false) (hl : ∀ W', Below W.heap.size W W' → Calls Try.prog 64 #[.pointer (some ⟨E.R, 0, none⟩), .agg #[.int .i64 o, .int .i64 d, .int .i64 sr, .int .i64 f, .int .i64 im]] W' fun e w' => e = .returned (.tuple #[]) ∧ RunTo E S W' t w') : Calls Try.prog 49 #[.pointer (some ⟨E.R, 0, none⟩), .agg #[.int .i64 o, .int .i64 d, .int .i64 sr, .int .i64 f, .int .i64 im]] W fun e w' => e = .returned (.tuple #[]) ∧ RunTo E S W t w' := by
  have H := Lib.hid h
  have HJ := Lib.hid hj
  clear hj
  have HX := Lib.hid (Yq.boxS_new W (⟨o, d, sr, f, im⟩ : Y.In) 64)
  have HNO : Hid (¬ Own E S W.heap.size) := Lib.hid (fun hk => by have := h.ownLt hk; omega)
  have HL := Lib.hid hl
  clear h hl
  go_enter Try.func49, Try.ntmps49
  go_upto_region 1 with fail
  generalize W.alloc (.cells #[.int .i64 o, .int .i64 d, .int .i64 sr, .int .i64 f, .int .i64 im] 64) = W1 at HX ⊢
  obtain ⟨c0, c1, c2, c3, c4⟩ := HX.out.cells
  go_wp2_with (first | (go_at_call 62; (with_reducible refine (Yq.isJump_any _ _).mono ?_); rw [HJ.out]; rintro e w2 ⟨rfl, hb⟩; replace HX := Lib.hid (HX.out.call hb); clear hb c0 c1 c2 c3 c4; obtain ⟨c0, c1, c2, c3, c4⟩ := HX.out.cells) | (go_at_call 64; (with_reducible refine (HL.out _ HX.out.bel).mono ?_); rintro e w3 ⟨rfl, hto⟩; have HT := Lib.hid hto; clear hto))
  go_end0
  exact ⟨rfl, RunTo.back HX.out.bel HT.out⟩
set_option maxHeartbeats 4000000 in
theorem do_rec_no (h : RunAt E S s W) {y : Nat} (o : Int) (d sr f im : Int) (h1 : (o == 1) = false) (h2 : (o == 2) = false) (h48 : (o == 48) = false) (h50 : (o == 50) = false) (h49 : (o == 49) = false) (h51 : (o == 51) = false) (h53 : (o == 53) = false) (h52 : (o == 52) = false) (h54 : (o == 54) = false) (h55 : (o == 55) = false) (h56 : (o == 56) = false) (h64 : (o == 64) = false) (h80 : (o == 80) = false) (hj : Y.isJump o = false) (hl : ∀ W', Below W.heap.size W W' → Calls Try.prog 64 #[.pointer (some ⟨E.R, 0, none⟩), .agg #[.int .i64 o, .int .i64 d, .int .i64 sr, .int .i64 f, .int .i64 im]] W' fun e w' => e = whyE y ∧ RunTo E S W' t w') : Calls Try.prog 49 #[.pointer (some ⟨E.R, 0, none⟩), .agg #[.int .i64 o, .int .i64 d, .int .i64 sr, .int .i64 f, .int .i64 im]] W fun e w' => e = whyE y ∧ RunTo E S W t w' := by
  have H := Lib.hid h
  have HJ := Lib.hid hj
  clear hj
  have HX := Lib.hid (Yq.boxS_new W (⟨o, d, sr, f, im⟩ : Y.In) 64)
  have HNO : Hid (¬ Own E S W.heap.size) := Lib.hid (fun hk => by have := h.ownLt hk; omega)
  have HL := Lib.hid hl
  clear h hl
  go_enter Try.func49, Try.ntmps49
  go_upto_region 1 with fail
  generalize W.alloc (.cells #[.int .i64 o, .int .i64 d, .int .i64 sr, .int .i64 f, .int .i64 im] 64) = W1 at HX ⊢
  obtain ⟨c0, c1, c2, c3, c4⟩ := HX.out.cells
  go_wp2_with (first | (go_at_call 62; (with_reducible refine (Yq.isJump_any _ _).mono ?_); rw [HJ.out]; rintro e w2 ⟨rfl, hb⟩; replace HX := Lib.hid (HX.out.call hb); clear hb c0 c1 c2 c3 c4; obtain ⟨c0, c1, c2, c3, c4⟩ := HX.out.cells) | (go_at_call 64; (with_reducible refine (HL.out _ HX.out.bel).mono ?_); rintro e w3 ⟨rfl, hto⟩; exact ⟨rfl, rfl, RunTo.back HX.out.bel hto⟩))
end
end Go.Proofs.Ythngbakbiocadaa

/-
  What an instruction does, whichever it is.
-/
namespace Go.Proofs.Ythngbakbiocadaa
set_option maxRecDepth 100000
open Go.ChangeShapes Go.WideShapes Go.ChangeAt Go.RowKit Go.Maps
open V
def runK : V.Calc := ⟨ariF, holdsF⟩
def runHi : Int → Bool := Y.hasImm
section
variable {E : Ev} {S : Nat → Prop} {s t : V.St} {W : World}
theorem nd_ldval {c : V.Cell} {a b v : Int} {u : V.St} : ldval c a b s ≠ .done v u := by
  unfold ldval
  split
  · intro h; cases h
  · intro h; cases h
  · split
    · intro h; cases h
    · split
      · intro h; cases h
      · intro h; cases h
theorem nd_stval {c e : V.Cell} {b v : Int} {u : V.St} : stval c e b s ≠ .done v u := by
  unfold stval
  split
  · intro h; cases h
  · split
    · intro h; cases h
    · split
      · split
        · intro h; cases h
        · split
          · intro h; cases h
          · split
            · intro h; cases h
            · intro h; cases h
      · intro h; cases h
theorem nd_help {k : Int} {m : Nat} {d : Dt} {v : Int} {u : V.St} : V.help k m d s ≠ .done v u := by
  unfold V.help
  split
  · split
    · intro h; cases h
    · intro h; cases h
  · split
    · intro h; cases h
    · split
      · intro h; cases h
      · intro h; cases h
theorem nd_call {q k v : Int} {u : V.St} : V.call q k s ≠ .done v u := by
  unfold V.call
  split
  · intro h; cases h
  · split
    · intro h; cases h
    · split
      · intro h; cases h
      · split
        · intro h; cases h
        · split
          · intro h; cases h
          · exact nd_help
theorem nd_stctx {q i n v : Int} {u : V.St} : stctx q i n s ≠ .done v u := by
  unfold stctx
  split
  · intro h; cases h
  · split
    · intro h; cases h
    · intro h; cases h
theorem nd_ststk {i n v : Int} {u : V.St} : ststk i n s ≠ .done v u := by
  unfold ststk
  split
  · intro h; cases h
  · intro h; cases h
theorem wr_tuple {r : V.Res} {e : Ending} {w' : World} (hr : r = .on t) (hh : Wr E S W r e w') : e = .returned (.tuple #[]) ∧ RunTo E S W t w' := by rw [hr] at hh; exact hh
theorem wr_why {r : V.Res} {y : Nat} {e : Ending} {w' : World} (hr : r = .flt y t) (hh : Wr E S W r e w') : e = whyE y ∧ RunTo E S W t w' := by rw [hr] at hh; exact hh
theorem other_rec (x : Y.In) (ho : 16 ≤ x.op ∧ x.op ≤ 27) : V.other runK (runHi x.op) x s = match opsF s x with
    | .error y => .flt y s
    | .ok (a, b) => .on (s.setR x.dst (.num (ariF x.op a b))) := by
  unfold V.other opsF runHi
  rw [if_neg (by omega)]
  have h32 : x.op < 32 := by omega
  cases Y.hasImm x.op with
  | true =>
    simp only [if_true]
    cases (s.r x.dst).nm with
    | error y => rfl
    | ok a => show alu runK x a x.imm s = _; unfold alu; rw [if_pos h32]; rfl
  | false =>
    simp only [Bool.false_eq_true, if_false]
    cases rd2 (s.r x.dst) (s.r x.src) with
    | error y => rfl
    | ok p => obtain ⟨a, b⟩ := p; show alu runK x a b s = _; unfold alu; rw [if_pos h32]; rfl
theorem other_jmp (x : Y.In) (ho : 33 ≤ x.op ∧ x.op ≤ 40) : V.other runK (runHi x.op) x s = match jmpF s x with
    | .error y => .flt y s
    | .ok b => .on (if b then s.jump x.off else s) := by
  unfold V.other jmpF runHi
  have hn32 : ¬ x.op = 32 := by omega
  have hn : ¬ x.op < 32 := by omega
  by_cases hf : (x.op = 37 ∨ x.op = 38) ∧ x.imm = 0 ∧ isRef (s.r x.dst) = true
  · have e : foundF s x = true := by
      unfold foundF
      rw [hf.2.2, hf.2.1]
      rcases hf.1 with q | q <;> rw [q] <;> rfl
    rw [if_pos hf, if_neg hn32, if_pos e]
    by_cases h38 : x.op = 38
    · simp [h38]
    · simp [h38]
  · have e : foundF s x = false := by
      cases he : foundF s x with
      | false => rfl
      | true =>
        unfold foundF at he
        simp only [Bool.and_eq_true, Bool.or_eq_true, beq_iff_eq] at he
        exact absurd ⟨he.1.1, he.1.2, he.2⟩ hf
    rw [if_neg hf, if_neg hn32, e, if_neg (show ¬ (false = true) by decide)]
    unfold opsF
    have ha : ∀ a b, alu runK x a b s = .on (if holdsF x.op a b = true then s.jump x.off else s) := fun a b => by
      unfold alu
      rw [if_neg hn]
      show (if holdsF x.op a b = true then _ else _) = _
      split <;> rfl
    cases Y.hasImm x.op with
    | true =>
      simp only [if_true]
      cases (s.r x.dst).nm with
      | error y => rfl
      | ok a => exact ha a x.imm
    | false =>
      simp only [Bool.false_eq_true, if_false]
      cases rd2 (s.r x.dst) (s.r x.src) with
      | error y => rfl
      | ok p => obtain ⟨a, b⟩ := p; exact ha a b
def doF (h : Int) (x : Y.In) (s : V.St) : V.Res := if x.op = 80 then (match (s.r 0).nm with
    | .error y => .flt y s
    | .ok n => .done n { s with steps := s.steps + 1 }) else V.exec runK runHi h x s
def DoC (E : Ev) (S : Nat → Prop) (W : World) (s : V.St) (x : Y.In) : Prop := Calls Try.prog 49 #[.pointer (some ⟨E.R, 0, none⟩), .agg #[.int .i64 x.op, .int .i64 x.dst, .int .i64 x.src, .int .i64 x.off, .int .i64 x.imm]] W (Wr E S W (doF E.h x s))
variable {d sr f im : Int}
theorem ld_any (hE : EvOk E) (h : RunAt E S s W) (hd : 0 ≤ d ∧ d < 8) (v : Int) : ∀ W', Below W.heap.size W W' → Calls Try.prog 51 #[.pointer (some ⟨E.R, 0, none⟩), .int .i64 d, .int .i64 v] W' fun e w' => e = .returned (.tuple #[]) ∧ RunTo E S W' (s.setR d (.num v)) w' := fun W' hb => load_any hE (h.step hb) d v hd
theorem stk_num (h : RunAt E S s W) (i : Nat) (hi : i < 8) (hu : (s.stk.getD i .no).un = false) : s.stk.getD i .no = .num (s.stk.getD i .no).word := by
  have hl : i < s.stk.length := by rw [h.wf.stk]; exact hi
  have e : s.stk.getD i .no = s.stk[i] := by simp [List.getD, hl]
  have hp := h.wf.pure s.stk[i] (List.getElem_mem hl)
  rw [e] at hu ⊢
  generalize s.stk[i] = c at hu hp
  cases c with
  | no => cases hu
  | num n => rfl
  | ref k m => cases hp
theorem doc_48 (hE : EvOk E) (h : RunAt E S s W) (hd : 0 ≤ d ∧ d < 8) : DoC E S W s ⟨48, d, sr, f, im⟩ := by
  show Calls _ _ _ _ (Wr E S W (ldctx d f s))
  unfold ldctx
  have hq := h.wf.ctx
  by_cases hk : f < 0 ∨ (s.ctx.length : Int) ≤ f
  · rw [if_pos hk]
    exact (do_48_no h d sr f im (fun W' hb => fieldv_no (h.step hb) f (by omega))).mono fun e w' hh => hh
  · rw [if_neg hk]
    exact (do_48_ok h _ d sr f im (fun W' hb => fieldv_ok (h.step hb) f (by omega)) (ld_any hE h hd _)).mono fun e w' hh => hh
theorem doc_51 (hE : EvOk E) (h : RunAt E S s W) (hd : 0 ≤ d ∧ d < 8) : DoC E S W s ⟨51, d, sr, f, im⟩ := by
  show Calls _ _ _ _ (Wr E S W (ldstk d f s))
  unfold ldstk
  by_cases hk : f < 0 ∨ 8 ≤ f
  · rw [if_pos hk]
    exact (do_51_no h d sr f im (fun W' hb => wordv_out (h.step hb) f hk)).mono fun e w' hh => hh
  · rw [if_neg hk]
    cases hu : (s.stk.getD f.toNat .no).un with
    | true =>
      rw [if_pos rfl]
      exact (do_51_no h d sr f im (fun W' hb => wordv_blank (h.step hb) f (by omega) hu)).mono fun e w' hh => hh
    | false =>
      rw [if_neg (by decide), stk_num h f.toNat (by omega) hu]
      exact (do_51_ok h _ d sr f im (fun W' hb => wordv_ok (h.step hb) f (by omega) hu) (ld_any hE h hd _)).mono fun e w' hh => hh
theorem doc_50 (hE : EvOk E) (h : RunAt E S s W) (hd : 0 ≤ d ∧ d < 8) (hs : 0 ≤ sr ∧ sr < 8) : DoC E S W s ⟨50, d, sr, f, im⟩ := by
  show Calls _ _ _ _ (Wr E S W (match (s.r sr).nm with
    | .error w => .flt w s
    | .ok n => ldctx d n s))
  cases hn : (s.r sr).nm with
  | error y => exact (do_50_num h d sr f im (fun W' hb => number_no (h.step hb) sr hs hn)).mono fun e w' hh => hh
  | ok n =>
    have hN := fun W' (hb : Below W.heap.size W W') => number_ok (h.step hb) sr hs hn
    have hq := h.wf.ctx
    show Calls _ _ _ _ (Wr E S W (ldctx d n s))
    unfold ldctx
    by_cases hk : n < 0 ∨ (s.ctx.length : Int) ≤ n
    · rw [if_pos hk]
      exact (do_50_no h n d sr f im hN (fun W' hb => fieldv_no (h.step hb) n (by omega))).mono fun e w' hh => hh
    · rw [if_neg hk]
      exact (do_50_ok h n _ d sr f im hN (fun W' hb => fieldv_ok (h.step hb) n (by omega)) (ld_any hE h hd _)).mono fun e w' hh => hh
theorem doc_53 (hE : EvOk E) (h : RunAt E S s W) (hd : 0 ≤ d ∧ d < 8) (hs : 0 ≤ sr ∧ sr < 8) : DoC E S W s ⟨53, d, sr, f, im⟩ := by
  show Calls _ _ _ _ (Wr E S W (match (s.r sr).nm with
    | .error w => .flt w s
    | .ok n => ldstk d n s))
  cases hn : (s.r sr).nm with
  | error y => exact (do_53_num h d sr f im (fun W' hb => number_no (h.step hb) sr hs hn)).mono fun e w' hh => hh
  | ok n =>
    have hN := fun W' (hb : Below W.heap.size W W') => number_ok (h.step hb) sr hs hn
    show Calls _ _ _ _ (Wr E S W (ldstk d n s))
    unfold ldstk
    by_cases hk : n < 0 ∨ 8 ≤ n
    · rw [if_pos hk]
      exact (do_53_no h n d sr f im hN (fun W' hb => wordv_out (h.step hb) n hk)).mono fun e w' hh => hh
    · rw [if_neg hk]
      cases hu : (s.stk.getD n.toNat .no).un with
      | true =>
        rw [if_pos rfl]
        exact (do_53_no h n d sr f im hN (fun W' hb => wordv_blank (h.step hb) n (by omega) hu)).mono fun e w' hh => hh
      | false =>
        rw [if_neg (by decide), stk_num h n.toNat (by omega) hu]
        exact (do_53_ok h n _ d sr f im hN (fun W' hb => wordv_ok (h.step hb) n (by omega) hu) (ld_any hE h hd _)).mono fun e w' hh => hh
theorem doc_49 (hE : EvOk E) (h : RunAt E S s W) (hs : 0 ≤ sr ∧ sr < 8) : DoC E S W s ⟨49, d, sr, f, im⟩ := by
  show Calls _ _ _ _ (Wr E S W (match (s.r sr).nm with
    | .error w => .flt w s
    | .ok n => stctx E.h f n s))
  cases hn : (s.r sr).nm with
  | error y => exact (do_49_num h d sr f im (fun W' hb => number_no (h.step hb) sr hs hn)).mono fun e w' hh => hh
  | ok n =>
    have hN := fun W' (hb : Below W.heap.size W W') => number_ok (h.step hb) sr hs hn
    have hL := fun W' (hb : Below W.heap.size W W') => setField_any hE (h.step hb) f n
    show Calls _ _ _ _ (Wr E S W (stctx E.h f n s))
    cases hr : stctx E.h f n s with
    | on u => exact (do_49_ok (t := u) h n d sr f im hN (fun W' hb => (hL W' hb).mono fun e w' hh => wr_tuple hr hh)).mono fun e w' hh => hh
    | done v u => exact absurd hr nd_stctx
    | flt y u => exact (do_49_no (t := u) h n d sr f im hN (fun W' hb => (hL W' hb).mono fun e w' hh => wr_why hr hh)).mono fun e w' hh => hh
theorem doc_52 (hE : EvOk E) (h : RunAt E S s W) (hs : 0 ≤ sr ∧ sr < 8) : DoC E S W s ⟨52, d, sr, f, im⟩ := by
  show Calls _ _ _ _ (Wr E S W (match (s.r sr).nm with
    | .error w => .flt w s
    | .ok n => ststk f n s))
  cases hn : (s.r sr).nm with
  | error y => exact (do_52_num h d sr f im (fun W' hb => number_no (h.step hb) sr hs hn)).mono fun e w' hh => hh
  | ok n =>
    have hN := fun W' (hb : Below W.heap.size W W') => number_ok (h.step hb) sr hs hn
    have hL := fun W' (hb : Below W.heap.size W W') => setWord_any hE (h.step hb) f n
    show Calls _ _ _ _ (Wr E S W (ststk f n s))
    cases hr : ststk f n s with
    | on u => exact (do_52_ok (t := u) h n d sr f im hN (fun W' hb => (hL W' hb).mono fun e w' hh => wr_tuple hr hh)).mono fun e w' hh => hh
    | done v u => exact absurd hr nd_ststk
    | flt y u => exact (do_52_no (t := u) h n d sr f im hN (fun W' hb => (hL W' hb).mono fun e w' hh => wr_why hr hh)).mono fun e w' hh => hh
theorem doc_54 (hE : EvOk E) (h : RunAt E S s W) (hd : 0 ≤ d ∧ d < 8) (hs : 0 ≤ sr ∧ sr < 8) : DoC E S W s ⟨54, d, sr, f, im⟩ := by
  show Calls _ _ _ _ (Wr E S W (match rd2 (s.r d) (s.r sr) with
    | .error w => .flt w s
    | .ok (a, b) => ststk a b s))
  have hN := fun W' (hb : Below W.heap.size W W') => numbers_any (h.step hb) d sr hd hs
  cases hn : rd2 (s.r d) (s.r sr) with
  | error y =>
    rw [hn] at hN
    exact (do_54_no h d sr f im hN).mono fun e w' hh => wr_flt h hh
  | ok p =>
    obtain ⟨a, b⟩ := p
    rw [hn] at hN
    have hL := fun W' (hb : Below W.heap.size W W') => setWord_any hE (h.step hb) a b
    show Calls _ _ _ _ (Wr E S W (ststk a b s))
    cases hr : ststk a b s with
    | on u => exact (do_54_ok (t := u) h a b d sr f im hN (fun W' hb => (hL W' hb).mono fun e w' hh => wr_tuple hr hh)).mono fun e w' hh => hh
    | done v u => exact absurd hr nd_ststk
    | flt y u => exact (do_54_out (t := u) h a b d sr f im hN (fun W' hb => (hL W' hb).mono fun e w' hh => wr_why hr hh)).mono fun e w' hh => hh
theorem doc_55 (hE : EvOk E) (h : RunAt E S s W) (hx : Y.Bd ⟨55, d, sr, f, im⟩) : DoC E S W s ⟨55, d, sr, f, im⟩ := by
  show Calls _ _ _ _ (Wr E S W (ldval (s.r sr) d f s))
  have hL := fun W' (hb : Below W.heap.size W W') => loadVal_any hE (h.step hb) ⟨55, d, sr, f, im⟩ hx
  cases hr : ldval (s.r sr) d f s with
  | on u => exact (do_55_ok (t := u) h d sr f im (fun W' hb => (hL W' hb).mono fun e w' hh => wr_tuple hr hh)).mono fun e w' hh => hh
  | done v u => exact absurd hr nd_ldval
  | flt y u => exact (do_55_no (t := u) h d sr f im (fun W' hb => (hL W' hb).mono fun e w' hh => wr_why hr hh)).mono fun e w' hh => hh
theorem doc_56 (hE : EvOk E) (h : RunAt E S s W) (hx : Y.Bd ⟨56, d, sr, f, im⟩) : DoC E S W s ⟨56, d, sr, f, im⟩ := by
  show Calls _ _ _ _ (Wr E S W (stval (s.r d) (s.r sr) f s))
  have hL := fun W' (hb : Below W.heap.size W W') => storeVal_any hE (h.step hb) ⟨56, d, sr, f, im⟩ hx
  cases hr : stval (s.r d) (s.r sr) f s with
  | on u => exact (do_56_ok (t := u) h d sr f im (fun W' hb => (hL W' hb).mono fun e w' hh => wr_tuple hr hh)).mono fun e w' hh => hh
  | done v u => exact absurd hr nd_stval
  | flt y u => exact (do_56_no (t := u) h d sr f im (fun W' hb => (hL W' hb).mono fun e w' hh => wr_why hr hh)).mono fun e w' hh => hh
theorem doc_64 (hE : EvOk E) (h : RunAt E S s W) : DoC E S W s ⟨64, d, sr, f, im⟩ := by
  show Calls _ _ _ _ (Wr E S W (V.call E.h im s))
  have hL := fun W' (hb : Below W.heap.size W W') => call_any hE (h.step hb) im
  cases hr : V.call E.h im s with
  | on u => exact (do_64_ok (t := u) h d sr f im (fun W' hb => (hL W' hb).mono fun e w' hh => wr_tuple hr hh)).mono fun e w' hh => hh
  | done v u => exact absurd hr nd_call
  | flt y u => exact (do_64_no (t := u) h d sr f im (fun W' hb => (hL W' hb).mono fun e w' hh => wr_why hr hh)).mono fun e w' hh => hh
theorem doc_80 (hE : EvOk E) (h : RunAt E S s W) (hs : s.steps ≤ 1000) : DoC E S W s ⟨80, d, sr, f, im⟩ := by
  have hL := fun W' (hb : Below W.heap.size W W') => exit_any hE (h.step hb) hs
  show Calls _ _ _ _ (Wr E S W (match (s.r 0).nm with
    | .error y => .flt y s
    | .ok n => .done n { s with steps := s.steps + 1 }))
  cases hn : (s.r 0).nm with
  | error y =>
    rw [hn] at hL
    exact (do_80_no (t := s) h d sr f im hL).mono fun e w' hh => hh
  | ok n =>
    rw [hn] at hL
    exact (do_80_ok (t := { s with steps := s.steps + 1 }) h d sr f im hL).mono fun e w' hh => hh
theorem doc_1 (hE : EvOk E) (h : RunAt E S s W) (hd : 0 ≤ d ∧ d < 8) (hs : 0 ≤ sr ∧ sr < 8) : DoC E S W s ⟨1, d, sr, f, im⟩ := by
  show Calls _ _ _ _ (Wr E S W (if (s.r sr).un then .flt 3 s else .on (s.setR d (s.r sr))))
  obtain ⟨j, rfl⟩ : ∃ j : Nat, d = (j : Int) := ⟨d.toNat, by omega⟩
  obtain ⟨i, rfl⟩ : ∃ i : Nat, sr = (i : Int) := ⟨sr.toNat, by omega⟩
  cases hu : (s.r (i : Int)).un with
  | true => exact (do_1_no h (j : Int) (i : Int) f im (fun W' hb t => askSet1_no (h.step hb) (i : Int) hs hu t)).mono fun e w' hh => wr_flt h hh
  | false => exact (do_1_ok hE h i j (by omega) (by omega) f im _ rfl (fun W' hb t => askSet1_ok (h.step hb) (i : Int) hs hu t)).mono fun e w' hh => hh
theorem doc_2 (hE : EvOk E) (h : RunAt E S s W) (hd : 0 ≤ d ∧ d < 8) : DoC E S W s ⟨2, d, sr, f, im⟩ := by
  show Calls _ _ _ _ (Wr E S W (.on (s.setR d (.num im))))
  exact (do_2 h d sr f im (ld_any hE h hd im)).mono fun e w' hh => hh
theorem isJ {o : Int} (h : 32 ≤ o ∧ o ≤ 40) : Y.isJump o = true := by unfold Y.isJump; simpa using h
theorem notJ {o : Int} (h : 16 ≤ o ∧ o ≤ 27) : Y.isJump o = false := by unfold Y.isJump; simp; omega
theorem doc_jmp (hE : EvOk E) (h : RunAt E S s W) {o : Int} (ho : 32 ≤ o ∧ o ≤ 40) (hx : Y.Bd ⟨o, d, sr, f, im⟩) (ha : -100000 ≤ s.at_ ∧ s.at_ ≤ 100000) : DoC E S W s ⟨o, d, sr, f, im⟩ := by
  have e : doF E.h ⟨o, d, sr, f, im⟩ s = match jmpF s ⟨o, d, sr, f, im⟩ with
    | .error y => .flt y s
    | .ok b => .on (if b then s.jump f else s) := by
    unfold doF V.exec
    rw [if_neg (by show ¬ o = 80; omega), if_neg (by show ¬ o = 80; omega), if_neg (by show ¬ o = 1; omega), if_neg (by show ¬ o = 2; omega), if_neg (by show ¬ o = 64; omega)]
    by_cases h32 : o = 32
    · rw [if_pos h32]
      unfold jmpF
      rw [if_pos h32]
      rfl
    · rw [if_neg h32, if_neg (by show ¬ o = 48; omega), if_neg (by show ¬ o = 49; omega), if_neg (by show ¬ o = 50; omega), if_neg (by show ¬ o = 51; omega), if_neg (by show ¬ o = 52; omega), if_neg (by show ¬ o = 53; omega), if_neg (by show ¬ o = 54; omega), if_neg (by show ¬ o = 55; omega), if_neg (by show ¬ o = 56; omega)]
      exact other_jmp ⟨o, d, sr, f, im⟩ (by show 33 ≤ o ∧ o ≤ 40; omega)
  have hL := fun W' (hb : Below W.heap.size W W') => jump_any hE (h.step hb) ⟨o, d, sr, f, im⟩ hx ho ha
  unfold DoC
  rw [e]
  have n : ∀ k : Int, ¬ o = k → (o == k) = false := fun k hk => by simpa using hk
  cases hj : jmpF s ⟨o, d, sr, f, im⟩ with
  | error y =>
    rw [hj] at hL
    exact (do_jmp_no (t := s) h o d sr f im (n 1 (by omega)) (n 2 (by omega)) (n 48 (by omega)) (n 50 (by omega)) (n 49 (by omega)) (n 51 (by omega)) (n 53 (by omega)) (n 52 (by omega)) (n 54 (by omega)) (n 55 (by omega)) (n 56 (by omega)) (n 64 (by omega)) (n 80 (by omega)) (isJ ho) hL).mono fun e w' hh => hh
  | ok b =>
    rw [hj] at hL
    exact (do_jmp_ok h o d sr f im (n 1 (by omega)) (n 2 (by omega)) (n 48 (by omega)) (n 50 (by omega)) (n 49 (by omega)) (n 51 (by omega)) (n 53 (by omega)) (n 52 (by omega)) (n 54 (by omega)) (n 55 (by omega)) (n 56 (by omega)) (n 64 (by omega)) (n 80 (by omega)) (isJ ho) hL).mono fun e w' hh => hh
theorem doc_rec (hE : EvOk E) (h : RunAt E S s W) {o : Int} (ho : 16 ≤ o ∧ o ≤ 27) (hx : Y.Bd ⟨o, d, sr, f, im⟩) (hsh : o = 26 ∨ o = 27 → 0 ≤ im ∧ im ≤ 63) : DoC E S W s ⟨o, d, sr, f, im⟩ := by
  have e : doF E.h ⟨o, d, sr, f, im⟩ s = match opsF s ⟨o, d, sr, f, im⟩ with
    | .error y => .flt y s
    | .ok (a, b) => .on (s.setR d (.num (ariF o a b))) := by
    unfold doF V.exec
    rw [if_neg (by show ¬ o = 80; omega), if_neg (by show ¬ o = 80; omega), if_neg (by show ¬ o = 1; omega), if_neg (by show ¬ o = 2; omega), if_neg (by show ¬ o = 64; omega)]
    rw [if_neg (by show ¬ o = 32; omega), if_neg (by show ¬ o = 48; omega), if_neg (by show ¬ o = 49; omega), if_neg (by show ¬ o = 50; omega), if_neg (by show ¬ o = 51; omega), if_neg (by show ¬ o = 52; omega), if_neg (by show ¬ o = 53; omega), if_neg (by show ¬ o = 54; omega), if_neg (by show ¬ o = 55; omega), if_neg (by show ¬ o = 56; omega)]
    exact other_rec ⟨o, d, sr, f, im⟩ ho
  have hL := fun W' (hb : Below W.heap.size W W') => reckon_any hE (h.step hb) ⟨o, d, sr, f, im⟩ hx ho hsh
  unfold DoC
  rw [e]
  have n : ∀ k : Int, ¬ o = k → (o == k) = false := fun k hk => by simpa using hk
  cases hj : opsF s ⟨o, d, sr, f, im⟩ with
  | error y =>
    rw [hj] at hL
    exact (do_rec_no (t := s) h o d sr f im (n 1 (by omega)) (n 2 (by omega)) (n 48 (by omega)) (n 50 (by omega)) (n 49 (by omega)) (n 51 (by omega)) (n 53 (by omega)) (n 52 (by omega)) (n 54 (by omega)) (n 55 (by omega)) (n 56 (by omega)) (n 64 (by omega)) (n 80 (by omega)) (notJ ho) hL).mono fun e w' hh => hh
  | ok p =>
    obtain ⟨a, b⟩ := p
    rw [hj] at hL
    exact (do_rec_ok h o d sr f im (n 1 (by omega)) (n 2 (by omega)) (n 48 (by omega)) (n 50 (by omega)) (n 49 (by omega)) (n 51 (by omega)) (n 53 (by omega)) (n 52 (by omega)) (n 54 (by omega)) (n 55 (by omega)) (n 56 (by omega)) (n 64 (by omega)) (n 80 (by omega)) (notJ ho) hL).mono fun e w' hh => hh
theorem do_any (hE : EvOk E) (h : RunAt E S s W) (x : Y.In) (hr : Y.right x = true) (ha : -100000 ≤ s.at_ ∧ s.at_ ≤ 100000) (hs : s.steps ≤ 1000) : Calls Try.prog 49 #[.pointer (some ⟨E.R, 0, none⟩), .agg #[.int .i64 x.op, .int .i64 x.dst, .int .i64 x.src, .int .i64 x.off, .int .i64 x.imm]] W (Wr E S W (doF E.h x s)) := by
  have hx := Y.right_bd hr
  have hkn : Y.known x.op = true ∧ (x.op = 26 ∨ x.op = 27 → 0 ≤ x.imm ∧ x.imm ≤ 63) := by
    unfold Y.right at hr
    simp only [Bool.and_eq_true, Bool.or_eq_true, Bool.not_eq_true', decide_eq_true_eq, Bool.or_eq_false_iff, beq_eq_false_iff_ne] at hr
    exact ⟨hr.1.1.1.1.1, fun e => by
      rcases hr.2 with q | q
      · rcases e with e | e
        · exact absurd e q.1
        · exact absurd e q.2
      · exact q⟩
  obtain ⟨hk, hsh⟩ := hkn
  have hd : 0 ≤ x.dst ∧ x.dst < 8 := ⟨hx.dst.1, by have := hx.dst.2; omega⟩
  have hs8 : 0 ≤ x.src ∧ x.src < 8 := ⟨hx.src.1, by have := hx.src.2; omega⟩
  obtain ⟨o, d, sr, f, im⟩ := x
  have hk' : o = 1 ∨ o = 2 ∨ (16 ≤ o ∧ o ≤ 27) ∨ (32 ≤ o ∧ o ≤ 40) ∨ (48 ≤ o ∧ o ≤ 56) ∨ o = 64 ∨ o = 80 := by
    unfold Y.known at hk
    exact of_decide_eq_true hk
  show DoC E S W s ⟨o, d, sr, f, im⟩
  rcases hk' with rfl | rfl | ho | ho | ho | rfl | rfl
  · exact doc_1 hE h hd hs8
  · exact doc_2 hE h hd
  · exact doc_rec hE h ho hx hsh
  · exact doc_jmp hE h ho hx ha
  · have hc : o = 48 ∨ o = 49 ∨ o = 50 ∨ o = 51 ∨ o = 52 ∨ o = 53 ∨ o = 54 ∨ o = 55 ∨ o = 56 := by omega
    rcases hc with rfl | rfl | rfl | rfl | rfl | rfl | rfl | rfl | rfl
    · exact doc_48 hE h hd
    · exact doc_49 hE h hs8
    · exact doc_50 hE h hd hs8
    · exact doc_51 hE h hd
    · exact doc_52 hE h hs8
    · exact doc_53 hE h hd hs8
    · exact doc_54 hE h hd hs8
    · exact doc_55 hE h hx
    · exact doc_56 hE h hx
  · exact doc_64 hE h
  · exact doc_80 hE h hs
end
end Go.Proofs.Ythngbakbiocadaa
