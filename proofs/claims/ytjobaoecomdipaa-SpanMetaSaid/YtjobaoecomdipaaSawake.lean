/-
  The document's example: awake returns true.
-/
import Derived.Test.YtjobaoecomdipaaSmeta
namespace Go.Proofs.Ytjobaoecomdipaa
open Go.RowKit

/-! ### ways held against each other -/
theorem run_eql_way (w : World) (d o n x y z : Int) : (binOp .eql 24 (wayV d o n) (wayV x y z)).run Try.prog w = .ok (.bool (decide (d = x ∧ o = y ∧ n = z))) w := by
  unfold wayV
  go_simp
  by_cases h1 : d = x <;> by_cases h2 : o = y <;> by_cases h3 : n = z <;> simp [h1, h2, h3]
theorem run_neq_way (w : World) (d o n x y z : Int) : (binOp .neq 24 (wayV d o n) (wayV x y z)).run Try.prog w = .ok (.bool (!decide (d = x ∧ o = y ∧ n = z))) w := by
  unfold wayV
  go_simp
  by_cases h1 : d = x <;> by_cases h2 : o = y <;> by_cases h3 : n = z <;> simp [h1, h2, h3]
theorem run_eqGuard_way (w : World) (a b : Operand) (d o n x y z : Int) : (eqGuard .eql 24 a b (wayV d o n) (wayV x y z)).run Try.prog w = .ok () w :=
  run_eqGuard_agg w .eql 24 a b _ _ (by kernel_rfl)
theorem run_neGuard_way (w : World) (a b : Operand) (d o n x y z : Int) : (eqGuard .neq 24 a b (wayV d o n) (wayV x y z)).run Try.prog w = .ok () w :=
  run_eqGuard_agg w .neq 24 a b _ _ (by kernel_rfl)
theorem meta_example : Sp.meta_ [3, 4, 5, 36, 69] = 4 := by decide
set_option maxRecDepth 100000 in
set_option maxHeartbeats 1000000 in
theorem awake_any (w : World) : Calls Try.prog 7 #[] w fun e w' => e = .returned (.bool true) ∧ Below w.heap.size w w' := by
  have HW : Hid (∀ w, Calls Try.prog 8 #[.int .i64 69] w fun e w' => e = .returned (.tuple #[.agg (wayL 2 1 1).toArray, .bool true]) ∧ Below w.heap.size w w') := Lib.hid (fun w => where_any 69 w)
  have HP : Hid (∀ w, Calls Try.prog 10 #[.int .i64 65] w fun e w' => e = .returned (.int .i64 2) ∧ w = w') := Lib.hid (fun w => pages_any 65 w (by omega))
  have HM : Hid (∀ w, Calls Try.prog 13 #[.slice (some ⟨w.heap.size, 0, none⟩) 5 5] (w.alloc (.cells #[.int .i64 3, .int .i64 4, .int .i64 5, .int .i64 36, .int .i64 69] 3)) fun e w' => e = .returned (.int .i64 4) ∧ Below w.heap.size w w') := Lib.hid (fun w => by
    have h := meta_any (some ⟨w.heap.size, 0, none⟩) 5 5 [3, 4, 5, 36, 69] (w.alloc (.cells (intVals [3, 4, 5, 36, 69]).toArray 3)) (intRow_new w [3, 4, 5, 36, 69] 3 (by simp)) (by omega)
    rw [meta_example] at h
    refine h.mono ?_
    rintro e w' ⟨rfl, hb⟩
    exact ⟨rfl, ((Below.refl _ w).alloc (Nat.le_refl _) _).trans (hb.mono (by simp))⟩)
  have E1 : ∀ (a b : Operand) (w : World), (eqGuard .eql 24 a b (.agg (wayL 2 1 1).toArray) (.agg #[.int .i64 2, .int .i64 1, .int .i64 1])).run Try.prog w = .ok () w := fun a b w => run_eqGuard_way w a b 2 1 1 2 1 1
  have E2 : ∀ (w : World), (binOp .eql 24 (.agg (wayL 2 1 1).toArray) (.agg #[.int .i64 2, .int .i64 1, .int .i64 1])).run Try.prog w = .ok (.bool true) w := fun w => run_eql_way w 2 1 1 2 1 1
  go_enter Try.func7, Try.ntmps7
  go_wp2_with (first
    | (go_at_call 8; (with_reducible refine (HW.out _).mono ?_); rintro e w1 ⟨rfl, hb1⟩)
    | ((with_reducible refine wpList_store_newrow wayT (vs := wayL 2 1 1) rfl (wayL_one _ _ _) rfl (.tmp 1) (.tmp 5) rfl rfl ?_ ?_ ?_); (exact rfl); (exact rfl); intro W2 hP hb2 hz2; have S : Hid (RowAt W2 w1.heap.size (wayL 2 1 1) ∧ Below w.heap.size w W2) := Lib.hid ⟨hP, hb1.trans (hb2.mono hb1.size)⟩; clear hP hb2 hz2 hb1; generalize w1.heap.size = D at S ⊢)
    | ((with_reducible refine wpList_loadg_row wayT S.out.1 rfl (.tmp 1) rfl rfl ?_ ?_); (exact rfl))
    | (go_at_call 13; (with_reducible refine (HM.out _).mono ?_); rintro e w' ⟨rfl, hb⟩; replace S := Lib.hid (⟨RowAt.step S.out.1 hb, S.out.2.trans (hb.mono S.out.2.size)⟩ : RowAt w' D (wayL 2 1 1) ∧ Below w.heap.size w w'); clear hb)
    | (go_at_call 10; (with_reducible refine (HP.out _).mono ?_); rintro e w' ⟨rfl, rfl⟩))
  go_ret
  exact ⟨rfl, S.out.2⟩
end Go.Proofs.Ytjobaoecomdipaa
