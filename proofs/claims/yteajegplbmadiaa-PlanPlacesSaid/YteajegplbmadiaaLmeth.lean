/-
  The contracts of the plan's methods and of plan.New.
-/
import Derived.Test.YteajegplbmadiaaLleaf
namespace Go.Proofs.Yteajegplbmadiaa
open Go.RowKit

set_option maxHeartbeats 400000 in
theorem plJournal_any (p i : Int) (w : World) :
    Calls Try.prog 10 #[planV p i] w fun e w' => e = .returned (.int .i64 (if Pl.rightB p i = true then 1 else 0)) ∧ Below w.heap.size w w' := by
  have HF := Lib.hid (fun w => ifRight_any p i 1 w)
  generalize (if Pl.rightB p i = true then (1 : Int) else 0) = r at HF ⊢
  unfold planV at HF ⊢
  go_enter Try.func10, Try.ntmps10
  go_wp2_with (go_at_call 24; refine (HF.out _).mono ?_; rintro e w' ⟨rfl, hb⟩)
  go_ret
  exact ⟨rfl, (plan_box w p i (by simpa using hb)).2.1⟩
set_option maxHeartbeats 400000 in
theorem plInodeBits_any (p i : Int) (w : World) :
    Calls Try.prog 11 #[planV p i] w fun e w' => e = .returned (.int .i64 (if Pl.rightB p i = true then 41 else 0)) ∧ Below w.heap.size w w' := by
  have HF := Lib.hid (fun w => ifRight_any p i 41 w)
  generalize (if Pl.rightB p i = true then (41 : Int) else 0) = r at HF ⊢
  unfold planV at HF ⊢
  go_enter Try.func11, Try.ntmps11
  go_wp2_with (go_at_call 24; refine (HF.out _).mono ?_; rintro e w' ⟨rfl, hb⟩)
  go_ret
  exact ⟨rfl, (plan_box w p i (by simpa using hb)).2.1⟩
set_option maxHeartbeats 400000 in
theorem plDataBits_any (p i : Int) (w : World) :
    Calls Try.prog 12 #[planV p i] w fun e w' => e = .returned (.int .i64 (if Pl.rightB p i = true then 42 else 0)) ∧ Below w.heap.size w w' := by
  have HF := Lib.hid (fun w => ifRight_any p i 42 w)
  generalize (if Pl.rightB p i = true then (42 : Int) else 0) = r at HF ⊢
  unfold planV at HF ⊢
  go_enter Try.func12, Try.ntmps12
  go_wp2_with (go_at_call 24; refine (HF.out _).mono ?_; rintro e w' ⟨rfl, hb⟩)
  go_ret
  exact ⟨rfl, (plan_box w p i (by simpa using hb)).2.1⟩
set_option maxHeartbeats 400000 in
theorem plTable_any (p i : Int) (w : World) :
    Calls Try.prog 13 #[planV p i] w fun e w' => e = .returned (.int .i64 (if Pl.rightB p i = true then 43 else 0)) ∧ Below w.heap.size w w' := by
  have HF := Lib.hid (fun w => ifRight_any p i 43 w)
  generalize (if Pl.rightB p i = true then (43 : Int) else 0) = r at HF ⊢
  unfold planV at HF ⊢
  go_enter Try.func13, Try.ntmps13
  go_wp2_with (go_at_call 24; refine (HF.out _).mono ?_; rintro e w' ⟨rfl, hb⟩)
  go_ret
  exact ⟨rfl, (plan_box w p i (by simpa using hb)).2.1⟩
set_option maxHeartbeats 400000 in
theorem plData_yes (p i : Int) (w : World) (h : Pl.rightB p i = true) :
    Calls Try.prog 14 #[planV p i] w fun e w' => e = .returned (.int .i64 (Pl.dataN i)) ∧ Below w.heap.size w w' := by
  have hr := Pl.right_yes h
  unfold planV
  go_enter Try.func14, Try.ntmps14
  go_wp2_with (first
    | (go_at_call 21; refine (right_is p i _ _ h).mono ?_; rintro e w' ⟨rfl, hb⟩; have HB := Lib.hid (plan_box w p i (by simpa using hb)); have hc1 := HB.out.1.cell 1 _ rfl; clear hb)
    | (go_at_call 25; refine (dataAt_any i _ (by omega) (by omega)).mono ?_; rintro e w2 ⟨rfl, rfl⟩))
  go_ret
  exact ⟨rfl, HB.out.2.1⟩
set_option maxHeartbeats 400000 in
theorem plData_no (p i : Int) (w : World) (h : Pl.rightB p i = false) :
    Calls Try.prog 14 #[planV p i] w fun e w' => e = .returned (.int .i64 0) ∧ Below w.heap.size w w' := by
  unfold planV
  go_enter Try.func14, Try.ntmps14
  go_wp2_with (go_at_call 21; refine (right_is p i _ _ h).mono ?_; rintro e w' ⟨rfl, hb⟩; have HB := Lib.hid (plan_box w p i (by simpa using hb)); clear hb)
  go_ret
  exact ⟨rfl, HB.out.2.1⟩
set_option maxHeartbeats 400000 in
theorem plRoom_yes (p i : Int) (w : World) (h : Pl.rightB p i = true) :
    Calls Try.prog 15 #[planV p i] w fun e w' => e = .returned (.int .i64 (p - Pl.dataN i)) ∧ Below w.heap.size w w' := by
  obtain ⟨r1, r2, r3, r4⟩ := Pl.right_yes h
  have hd := Pl.data_bd r1 r2
  have HC := Lib.hid (fun w => dataAt_any i w (by omega) (by omega))
  unfold planV
  go_enter Try.func15, Try.ntmps15
  go_wp2_with (go_at_call 21; refine (right_is p i _ _ h).mono ?_; rintro e w' ⟨rfl, hb⟩; have HB := Lib.hid (plan_box w p i (by simpa using hb)); have hc1 := HB.out.1.cell 1 _ rfl; have hc0 := HB.out.1.cell 0 _ rfl; clear hb)
  go_quiet ((go_at_call 25; refine Calls.quiet_of_same ((HC.out _).mono fun e w' h => ⟨h.1, h.2.symm⟩)))
  go_wp2
  go_ret
  exact ⟨rfl, HB.out.2.1.trans (below_drewN _ _ _)⟩
set_option maxHeartbeats 400000 in
theorem plRoom_no (p i : Int) (w : World) (h : Pl.rightB p i = false) :
    Calls Try.prog 15 #[planV p i] w fun e w' => e = .returned (.int .i64 0) ∧ Below w.heap.size w w' := by
  unfold planV
  go_enter Try.func15, Try.ntmps15
  go_wp2_with (go_at_call 21; refine (right_is p i _ _ h).mono ?_; rintro e w' ⟨rfl, hb⟩; have HB := Lib.hid (plan_box w p i (by simpa using hb)); clear hb)
  go_ret
  exact ⟨rfl, HB.out.2.1⟩
/-! ### New: the plan, or none -/
/-- what stands before the question: the plan that is handed back, and the plan -/
theorem new_box (w : World) (p i : Int) {w' : World} (hb : Below (w.heap.size + 2) ((w.alloc (.cells #[.int .i64 0, .int .i64 0] 24)).alloc (.cells #[.int .i64 p, .int .i64 i] 24)) w') :
    RowAt w' w.heap.size (planL 0 0) ∧ RowAt w' (w.heap.size + 1) (planL p i) ∧ Below w.heap.size w w' := by
  have h0 := (rowAt_new w (planL 0 0) 24).alloc (.cells #[.int .i64 p, .int .i64 i] 24)
  have h1 := rowAt_new (w.alloc (.cells (planL 0 0).toArray 24)) (planL p i) 24
  rw [World.size_alloc] at h1
  have hs := hb.size
  simp at hs
  exact ⟨h0.below hb (by omega), h1.below hb (by omega), (((Below.refl _ _).alloc (Nat.le_refl _) _).alloc (by simp) _).trans (hb.mono (by omega))⟩
set_option maxHeartbeats 400000 in
theorem plNew_yes (p i : Int) (w : World) (h : Pl.rightB p i = true) :
    Calls Try.prog 7 #[.int .i64 p, .int .i64 i] w fun e w' => e = .returned (.tuple #[planV p i, .int .i64 0]) ∧ Below w.heap.size w w' := by
  go_enter Try.func7, Try.ntmps7
  go_wp2_with (first
    | (go_at_call 21; refine (right_is p i _ _ h).mono ?_; rintro e w3 ⟨rfl, hb⟩; have HB := Lib.hid (new_box w p i (by simpa using hb)); clear hb)
    | (with_reducible refine wpList_load_row planT HB.out.2.1 rfl rfl (.tmp 6) rfl rfl ?_)
    | ((with_reducible refine wpList_store_row planT (vs := planL p i) HB.out.1 rfl rfl (planL_one p i) rfl (.tmp 4) (.tmp 14) rfl rfl ?_ ?_); (exact rfl)))
  exact bodyPost_ret (results_row2 planT _ 4 5 rfl _ (HB.out.1.put (planL p i) rfl) rfl rfl rfl) rfl ⟨rfl, below_setCells _ (Nat.le_refl _) _ _ _ HB.out.2.2⟩
set_option maxHeartbeats 400000 in
theorem plNew_no (p i : Int) (w : World) (h : Pl.rightB p i = false) :
    Calls Try.prog 7 #[.int .i64 p, .int .i64 i] w fun e w' => e = .returned (.tuple #[planV 0 0, .int .i64 22]) ∧ Below w.heap.size w w' := by
  go_enter Try.func7, Try.ntmps7
  go_wp2_with (first
    | (go_at_call 21; refine (right_is p i _ _ h).mono ?_; rintro e w3 ⟨rfl, hb⟩; have HB := Lib.hid (new_box w p i (by simpa using hb)); clear hb)
    | ((with_reducible refine wpList_store_row planT (vs := planL 0 0) HB.out.1 rfl rfl (planL_one 0 0) rfl (.tmp 4) (.tmp 13) rfl rfl ?_ ?_); (exact rfl)))
  exact bodyPost_ret (results_row2 planT _ 4 5 rfl _ (HB.out.1.put (planL 0 0) rfl) rfl rfl rfl) rfl ⟨rfl, below_setCells _ (Nat.le_refl _) _ _ _ HB.out.2.2⟩
/-! ### Place -/
set_option maxHeartbeats 400000 in
theorem place_yes (p i n : Int) (w : World) (h : Pl.rightB p i = true) (h1 : 1 ≤ n) (h2 : n ≤ i) :
    Calls Try.prog 20 #[planV p i, .int .i64 n] w fun e w' => e = .returned (.tuple #[.int .i64 (43 + (n - 1) / 2), .int .i64 ((n - 1) % 2)]) ∧ Below w.heap.size w w' := by
  obtain ⟨r1, r2, r3, r4⟩ := Pl.right_yes h
  have g1 : decide (n < 1) = false := decide_eq_false (by omega)
  have g2 : decide (i < n) = false := decide_eq_false (by omega)
  unfold planV
  go_enter Try.func20, Try.ntmps20
  go_wp2_with (go_at_call 21; refine (right_is p i _ _ h).mono ?_; rintro e w' ⟨rfl, hb⟩; have HB := Lib.hid (plan_box w p i (by simpa using hb)); have hc1 := HB.out.1.cell 1 _ rfl; clear hb)
  go_ret2
  exact ⟨rfl, HB.out.2.1⟩
set_option maxHeartbeats 400000 in
theorem place_no (p i n : Int) (w : World) (h : Pl.rightB p i = true) (h1 : n < 1 ∨ i < n) :
    Calls Try.prog 20 #[planV p i, .int .i64 n] w fun e w' => e = .returned (.tuple #[.int .i64 0, .int .i64 0]) ∧ Below w.heap.size w w' := by
  unfold planV
  by_cases c : n < 1
  · go_enter Try.func20, Try.ntmps20
    go_wp2_with (go_at_call 21; refine (right_is p i _ _ h).mono ?_; rintro e w' ⟨rfl, hb⟩; have HB := Lib.hid (plan_box w p i (by simpa using hb)); have hc1 := HB.out.1.cell 1 _ rfl; clear hb)
    go_ret2
    exact ⟨rfl, HB.out.2.1⟩
  · have c2 : i < n := by omega
    go_enter Try.func20, Try.ntmps20
    go_wp2_with (go_at_call 21; refine (right_is p i _ _ h).mono ?_; rintro e w' ⟨rfl, hb⟩; have HB := Lib.hid (plan_box w p i (by simpa using hb)); have hc1 := HB.out.1.cell 1 _ rfl; clear hb)
    go_ret2
    exact ⟨rfl, HB.out.2.1⟩
/-! ### Bit and At -/
set_option maxHeartbeats 400000 in
theorem bit_yes (p i n : Int) (w : World) (h : Pl.rightB p i = true) (h1 : Pl.dataN i ≤ n) (h2 : n < p) :
    Calls Try.prog 16 #[planV p i, .int .i64 n] w fun e w' => e = .returned (.int .i64 (n - Pl.dataN i)) ∧ Below w.heap.size w w' := by
  obtain ⟨r1, r2, r3, r4⟩ := Pl.right_yes h
  have hd := Pl.data_bd r1 r2
  have g1 : decide (n < Pl.dataN i) = false := decide_eq_false (by omega)
  have g2 : decide (p ≤ n) = false := decide_eq_false (by omega)
  unfold planV
  go_enter Try.func16, Try.ntmps16
  go_wp2_with (first
    | (go_at_call 21; refine (right_is p i _ _ h).mono ?_; rintro e w' ⟨rfl, hb⟩; have HB := Lib.hid (plan_box w p i (by simpa using hb)); have hc1 := HB.out.1.cell 1 _ rfl; have hc0 := HB.out.1.cell 0 _ rfl; clear hb)
    | (go_at_call 25; refine (dataAt_any i _ (by omega) (by omega)).mono ?_; rintro e w2 ⟨rfl, rfl⟩))
  go_ret
  exact ⟨rfl, HB.out.2.1⟩
set_option maxHeartbeats 400000 in
theorem bit_no (p i n : Int) (w : World) (h : Pl.rightB p i = true) (h1 : n < Pl.dataN i ∨ p ≤ n) :
    Calls Try.prog 16 #[planV p i, .int .i64 n] w fun e w' => e = .returned (.int .i64 (-1)) ∧ Below w.heap.size w w' := by
  obtain ⟨r1, r2, r3, r4⟩ := Pl.right_yes h
  have hd := Pl.data_bd r1 r2
  unfold planV
  by_cases c : n < Pl.dataN i
  · have g1 : decide (n < Pl.dataN i) = true := decide_eq_true c
    go_enter Try.func16, Try.ntmps16
    go_wp2_with (first
      | (go_at_call 21; refine (right_is p i _ _ h).mono ?_; rintro e w' ⟨rfl, hb⟩; have HB := Lib.hid (plan_box w p i (by simpa using hb)); have hc1 := HB.out.1.cell 1 _ rfl; have hc0 := HB.out.1.cell 0 _ rfl; clear hb)
      | (go_at_call 25; refine (dataAt_any i _ (by omega) (by omega)).mono ?_; rintro e w2 ⟨rfl, rfl⟩))
    go_ret
    exact ⟨rfl, HB.out.2.1⟩
  · have g1 : decide (n < Pl.dataN i) = false := decide_eq_false c
    have g2 : decide (p ≤ n) = true := decide_eq_true (by omega)
    go_enter Try.func16, Try.ntmps16
    go_wp2_with (first
      | (go_at_call 21; refine (right_is p i _ _ h).mono ?_; rintro e w' ⟨rfl, hb⟩; have HB := Lib.hid (plan_box w p i (by simpa using hb)); have hc1 := HB.out.1.cell 1 _ rfl; have hc0 := HB.out.1.cell 0 _ rfl; clear hb)
      | (go_at_call 25; refine (dataAt_any i _ (by omega) (by omega)).mono ?_; rintro e w2 ⟨rfl, rfl⟩))
    go_ret
    exact ⟨rfl, HB.out.2.1⟩
set_option maxHeartbeats 400000 in
theorem bit_none (p i n : Int) (w : World) (h : Pl.rightB p i = false) :
    Calls Try.prog 16 #[planV p i, .int .i64 n] w fun e w' => e = .returned (.int .i64 (-1)) ∧ Below w.heap.size w w' := by
  unfold planV
  go_enter Try.func16, Try.ntmps16
  go_wp2_with (go_at_call 21; refine (right_is p i _ _ h).mono ?_; rintro e w' ⟨rfl, hb⟩; have HB := Lib.hid (plan_box w p i (by simpa using hb)); clear hb)
  go_ret
  exact ⟨rfl, HB.out.2.1⟩
set_option maxHeartbeats 400000 in
theorem at_yes (p i n : Int) (w : World) (h : Pl.rightB p i = true) (h1 : 0 ≤ n) (h2 : n < p - Pl.dataN i) :
    Calls Try.prog 17 #[planV p i, .int .i64 n] w fun e w' => e = .returned (.int .i64 (Pl.dataN i + n)) ∧ Below w.heap.size w w' := by
  obtain ⟨r1, r2, r3, r4⟩ := Pl.right_yes h
  have hd := Pl.data_bd r1 r2
  have g1 : decide (n < 0) = false := decide_eq_false (by omega)
  have g2 : decide (p - Pl.dataN i ≤ n) = false := decide_eq_false (by omega)
  have HD := Lib.hid (fun w => plData_yes p i w h)
  have HR := Lib.hid (fun w => plRoom_yes p i w h)
  unfold planV at HD HR ⊢
  go_enter Try.func17, Try.ntmps17
  go_wp2_with (first
    | (go_at_call 15; refine (HR.out _).mono ?_; rintro e w' ⟨rfl, hb⟩; have HB := Lib.hid (plan_box w p i (by simpa using hb)); have hc1 := HB.out.1.cell 1 _ rfl; have hc0 := HB.out.1.cell 0 _ rfl; clear hb)
    | (go_at_call 14; refine (HD.out _).mono ?_; rintro e w2 ⟨rfl, hb2⟩))
  go_ret
  exact ⟨rfl, HB.out.2.1.trans (hb2.mono HB.out.2.1.size)⟩
set_option maxHeartbeats 400000 in
theorem at_no (p i n : Int) (w : World) (h : Pl.rightB p i = true) (h1 : n < 0 ∨ p - Pl.dataN i ≤ n) :
    Calls Try.prog 17 #[planV p i, .int .i64 n] w fun e w' => e = .returned (.int .i64 0) ∧ Below w.heap.size w w' := by
  obtain ⟨r1, r2, r3, r4⟩ := Pl.right_yes h
  have hd := Pl.data_bd r1 r2
  have HR := Lib.hid (fun w => plRoom_yes p i w h)
  unfold planV at HR ⊢
  by_cases c : n < 0
  · go_enter Try.func17, Try.ntmps17
    go_wp2
    go_ret
    exact ⟨rfl, (Below.refl _ _).alloc (Nat.le_refl _) _⟩
  · have g2 : decide (p - Pl.dataN i ≤ n) = true := decide_eq_true (by omega)
    go_enter Try.func17, Try.ntmps17
    go_wp2_with (go_at_call 15; refine (HR.out _).mono ?_; rintro e w' ⟨rfl, hb⟩; have HB := Lib.hid (plan_box w p i (by simpa using hb)); clear hb)
    go_ret
    exact ⟨rfl, HB.out.2.1⟩
set_option maxHeartbeats 400000 in
theorem at_none (p i : Int) (w : World) (h : Pl.rightB p i = false) :
    Calls Try.prog 17 #[planV p i, .int .i64 0] w fun e w' => e = .returned (.int .i64 0) ∧ Below w.heap.size w w' := by
  have HR := Lib.hid (fun w => plRoom_no p i w h)
  unfold planV at HR ⊢
  go_enter Try.func17, Try.ntmps17
  go_wp2_with (go_at_call 15; refine (HR.out _).mono ?_; rintro e w' ⟨rfl, hb⟩; have HB := Lib.hid (plan_box w p i (by simpa using hb)); clear hb)
  go_ret
  exact ⟨rfl, HB.out.2.1⟩
end Go.Proofs.Yteajegplbmadiaa
