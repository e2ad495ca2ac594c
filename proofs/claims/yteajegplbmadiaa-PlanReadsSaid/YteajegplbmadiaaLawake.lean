/-
  The document's example: awake returns true.
-/
import Derived.Test.YteajegplbmadiaaLmeth
namespace Go.Proofs.Yteajegplbmadiaa
open Go.RowKit

/-! ### plans held against each other -/
theorem run_eql_plan (w : World) (p i q j : Int) : (binOp .eql 24 (planV p i) (planV q j)).run Try.prog w = .ok (.bool (decide (p = q ∧ i = j))) w := by
  unfold planV
  go_simp
  by_cases h1 : p = q <;> by_cases h2 : i = j <;> simp [h1, h2]
theorem run_neq_plan (w : World) (p i q j : Int) : (binOp .neq 24 (planV p i) (planV q j)).run Try.prog w = .ok (.bool (!decide (p = q ∧ i = j))) w := by
  unfold planV
  go_simp
  by_cases h1 : p = q <;> by_cases h2 : i = j <;> simp [h1, h2]
theorem run_eqGuard_plan (w : World) (x y : Operand) (p i q j : Int) : (eqGuard .eql 24 x y (planV p i) (planV q j)).run Try.prog w = .ok () w :=
  run_eqGuard_agg w .eql 24 x y _ _ (by kernel_rfl)
theorem run_neGuard_plan (w : World) (x y : Operand) (p i q j : Int) : (eqGuard .neq 24 x y (planV p i) (planV q j)).run Try.prog w = .ok () w :=
  run_eqGuard_agg w .neq 24 x y _ _ (by kernel_rfl)
theorem right_example : Pl.rightB 100 10 = true := by decide
set_option maxRecDepth 100000 in
set_option maxHeartbeats 1000000 in
theorem awake_any (w : World) : Calls Try.prog 6 #[] w fun e w' => e = .returned (.bool true) ∧ Below w.heap.size w w' := by
  have H0 := Lib.hid (fun w => plNew_yes 100 10 w right_example)
  have H1 := Lib.hid (fun w => plJournal_any 100 10 w)
  have H2 := Lib.hid (fun w => plInodeBits_any 100 10 w)
  have H3 := Lib.hid (fun w => plDataBits_any 100 10 w)
  have H4 := Lib.hid (fun w => plTable_any 100 10 w)
  have H5 := Lib.hid (fun w => plData_yes 100 10 w right_example)
  have H6 := Lib.hid (fun w => plRoom_yes 100 10 w right_example)
  rw [right_example] at H1 H2 H3 H4
  rw [show Pl.dataN 10 = 48 from by decide] at H5 H6
  simp only [if_true] at H1 H2 H3 H4
  go_enter Try.func6, Try.ntmps6
  go_wp2_with (first
    | (go_at_call 7; refine (H0.out _).mono ?_; rintro e w1 ⟨rfl, hb1⟩)
    | ((with_reducible refine wpList_store_newrow planT (vs := planL 100 10) rfl (planL_one _ _) rfl (.tmp 1) (.tmp 5) rfl rfl ?_ ?_ ?_); (exact rfl); (exact rfl); intro W2 hP hb2 hz2; have S : Hid (RowAt W2 w1.heap.size (planL 100 10) ∧ Below w.heap.size w W2) := Lib.hid ⟨hP, hb1.trans (hb2.mono hb1.size)⟩; clear hP hb2 hz2 hb1; generalize w1.heap.size = D at S ⊢)
    | ((with_reducible refine wpList_loadg_row planT S.out.1 rfl (.tmp 1) rfl rfl ?_ ?_); (exact rfl))
    | (go_at_call 10; refine (H1.out _).mono ?_; rintro e w' ⟨rfl, hb⟩; replace S := Lib.hid (⟨RowAt.step S.out.1 hb, S.out.2.trans (hb.mono S.out.2.size)⟩ : RowAt w' D (planL 100 10) ∧ Below w.heap.size w w'); clear hb)
    | (go_at_call 11; refine (H2.out _).mono ?_; rintro e w' ⟨rfl, hb⟩; replace S := Lib.hid (⟨RowAt.step S.out.1 hb, S.out.2.trans (hb.mono S.out.2.size)⟩ : RowAt w' D (planL 100 10) ∧ Below w.heap.size w w'); clear hb)
    | (go_at_call 12; refine (H3.out _).mono ?_; rintro e w' ⟨rfl, hb⟩; replace S := Lib.hid (⟨RowAt.step S.out.1 hb, S.out.2.trans (hb.mono S.out.2.size)⟩ : RowAt w' D (planL 100 10) ∧ Below w.heap.size w w'); clear hb)
    | (go_at_call 13; refine (H4.out _).mono ?_; rintro e w' ⟨rfl, hb⟩; replace S := Lib.hid (⟨RowAt.step S.out.1 hb, S.out.2.trans (hb.mono S.out.2.size)⟩ : RowAt w' D (planL 100 10) ∧ Below w.heap.size w w'); clear hb)
    | (go_at_call 14; refine (H5.out _).mono ?_; rintro e w' ⟨rfl, hb⟩; replace S := Lib.hid (⟨RowAt.step S.out.1 hb, S.out.2.trans (hb.mono S.out.2.size)⟩ : RowAt w' D (planL 100 10) ∧ Below w.heap.size w w'); clear hb)
    | (go_at_call 15; refine (H6.out _).mono ?_; rintro e w' ⟨rfl, hb⟩; replace S := Lib.hid (⟨RowAt.step S.out.1 hb, S.out.2.trans (hb.mono S.out.2.size)⟩ : RowAt w' D (planL 100 10) ∧ Below w.heap.size w w'); clear hb))
  go_ret
  exact ⟨rfl, S.out.2⟩
end Go.Proofs.Yteajegplbmadiaa
