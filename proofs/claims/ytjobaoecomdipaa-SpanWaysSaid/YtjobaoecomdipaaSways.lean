/-
  Proved: SpanWays returns true for all numbers: any page of a file is found as the document says, and is the page that is found so; how many pages bytes begin is what it says.
  Conditions: none beside the statement's own.
-/
import Derived.Test.YtjobaoecomdipaaSawake
namespace Go.Proofs.Ytjobaoecomdipaa.spanWays
open Go.ChangeShapes Go.WideShapes Go.ChangeAt Go.RowKit

set_option maxRecDepth 100000 in
set_option maxHeartbeats 4000000 in
theorem walk_no (i : Int) (w : World) (hs : i ≤ 9223372036854775807) (hok : Sp.okB i = false) :
    Calls Try.prog 3 #[.int .i64 i] w fun e w' => e = .returned (.bool true) ∧ Below w.heap.size w w' := by
  have HW : Hid (∀ w, Calls Try.prog 8 #[.int .i64 i] w fun e w' => e = .returned (.tuple #[.agg (wayL (Sp.dep i) (Sp.out i) (Sp.inn i)).toArray, .bool (Sp.okB i)]) ∧ Below w.heap.size w w') := Lib.hid (fun w => where_any i w)
  have HR := Lib.hid (fun w => rwhere_any i w)
  unfold RwhereGives at HR
  have HI : Hid (∀ w, Calls Try.prog 12 #[.agg (wayL (Sp.dep i) (Sp.out i) (Sp.inn i)).toArray] w fun e w' => e = .returned (.tuple #[.int .i64 (Sp.idx (Sp.dep i) (Sp.out i) (Sp.inn i)), .bool (Sp.idxB (Sp.dep i) (Sp.out i) (Sp.inn i))]) ∧ Below w.heap.size w w') := Lib.hid (fun w => index_any _ _ _ w)
  have HP := Lib.hid (fun w => pages_any i w hs)
  have HQ := Lib.hid (fun w => rpages_any i w hs)
  generalize Sp.idx (Sp.dep i) (Sp.out i) (Sp.inn i) = k at HI
  generalize Sp.idxB (Sp.dep i) (Sp.out i) (Sp.inn i) = b at HI
  rw [hok] at HW HR
  generalize Sp.dep i = d at HW HR HI
  generalize Sp.out i = o at HW HR HI
  generalize Sp.inn i = n at HW HR HI
  generalize Sp.pgs i = g at HP HQ
  have E1 : ∀ (a b : Operand) (w : World), (eqGuard .neq 24 a b (.agg (wayL d o n).toArray) (.agg #[.int .i64 d, .int .i64 o, .int .i64 n])).run Try.prog w = .ok () w := fun a b w => run_neGuard_way w a b d o n d o n
  have E2 : ∀ (w : World), (binOp .neq 24 (.agg (wayL d o n).toArray) (.agg #[.int .i64 d, .int .i64 o, .int .i64 n])).run Try.prog w = .ok (.bool false) w := fun w => (run_neq_way w d o n d o n).trans (by simp)
  clear hok hs
  go_enter Try.func3, Try.ntmps3
  go_wp2_with (first
    | (go_at_call 7; refine (awake_any _).mono ?_; rintro e w1 ⟨rfl, hb⟩; have B := Lib.hid hb; clear hb)
    | (go_at_call 8; (with_reducible refine (HW.out _).mono ?_); rintro e w2 ⟨rfl, hb⟩; replace B := Lib.hid (B.out.trans (hb.mono B.out.size)); clear hb)
    | ((with_reducible refine wpList_store_newrow wayT (vs := wayL d o n) rfl (wayL_one _ _ _) rfl (.tmp 3) (.tmp 16) rfl rfl ?_ ?_ ?_); (exact rfl); (exact rfl); intro W3 hP hb hz; have S : Hid (RowAt W3 w2.heap.size (wayL d o n) ∧ Below w.heap.size w W3) := Lib.hid ⟨hP, B.out.trans (hb.mono B.out.size)⟩; clear hP hb hz B; generalize w2.heap.size = D at S ⊢)
    | (go_at_call 9; (with_reducible refine (HR.out _).mono ?_); rintro e w' ⟨rfl, rfl⟩)
    | (with_reducible refine wpList_load_row wayT S.out.1 rfl rfl (.tmp 3) rfl rfl ?_)
    | (go_at_call 10; (with_reducible refine (HP.out _).mono ?_); rintro e w' ⟨rfl, rfl⟩)
    | (go_at_call 11; (with_reducible refine (HQ.out _).mono ?_); rintro e w' ⟨rfl, rfl⟩)
    | (go_at_call 12; (with_reducible refine (HI.out _).mono ?_); rintro e w4 ⟨rfl, hb⟩; replace S := Lib.hid (⟨RowAt.step S.out.1 hb, S.out.2.trans (hb.mono S.out.2.size)⟩ : RowAt w4 D (wayL d o n) ∧ Below w.heap.size w w4); clear hb))
  go_ret
  exact ⟨rfl, S.out.2⟩
set_option maxRecDepth 100000 in
set_option maxHeartbeats 4000000 in
theorem walk_yes (i : Int) (w : World) (hs : i ≤ 9223372036854775807) (hok : Sp.okB i = true) :
    Calls Try.prog 3 #[.int .i64 i] w fun e w' => e = .returned (.bool true) ∧ Below w.heap.size w w' := by
  have HW : Hid (∀ w, Calls Try.prog 8 #[.int .i64 i] w fun e w' => e = .returned (.tuple #[.agg (wayL (Sp.dep i) (Sp.out i) (Sp.inn i)).toArray, .bool (Sp.okB i)]) ∧ Below w.heap.size w w') := Lib.hid (fun w => where_any i w)
  have HR := Lib.hid (fun w => rwhere_any i w)
  unfold RwhereGives at HR
  have HI : Hid (∀ w, Calls Try.prog 12 #[.agg (wayL (Sp.dep i) (Sp.out i) (Sp.inn i)).toArray] w fun e w' => e = .returned (.tuple #[.int .i64 (Sp.idx (Sp.dep i) (Sp.out i) (Sp.inn i)), .bool (Sp.idxB (Sp.dep i) (Sp.out i) (Sp.inn i))]) ∧ Below w.heap.size w w') := Lib.hid (fun w => index_any _ _ _ w)
  have HP := Lib.hid (fun w => pages_any i w hs)
  have HQ := Lib.hid (fun w => rpages_any i w hs)
  rw [(Sp.idx_where i hok).1, (Sp.idx_where i hok).2] at HI
  rw [hok] at HW HR
  generalize Sp.dep i = d at HW HR HI
  generalize Sp.out i = o at HW HR HI
  generalize Sp.inn i = n at HW HR HI
  generalize Sp.pgs i = g at HP HQ
  have E1 : ∀ (a b : Operand) (w : World), (eqGuard .neq 24 a b (.agg (wayL d o n).toArray) (.agg #[.int .i64 d, .int .i64 o, .int .i64 n])).run Try.prog w = .ok () w := fun a b w => run_neGuard_way w a b d o n d o n
  have E2 : ∀ (w : World), (binOp .neq 24 (.agg (wayL d o n).toArray) (.agg #[.int .i64 d, .int .i64 o, .int .i64 n])).run Try.prog w = .ok (.bool false) w := fun w => (run_neq_way w d o n d o n).trans (by simp)
  clear hok hs
  go_enter Try.func3, Try.ntmps3
  go_wp2_with (first
    | (go_at_call 7; refine (awake_any _).mono ?_; rintro e w1 ⟨rfl, hb⟩; have B := Lib.hid hb; clear hb)
    | (go_at_call 8; (with_reducible refine (HW.out _).mono ?_); rintro e w2 ⟨rfl, hb⟩; replace B := Lib.hid (B.out.trans (hb.mono B.out.size)); clear hb)
    | ((with_reducible refine wpList_store_newrow wayT (vs := wayL d o n) rfl (wayL_one _ _ _) rfl (.tmp 3) (.tmp 16) rfl rfl ?_ ?_ ?_); (exact rfl); (exact rfl); intro W3 hP hb hz; have S : Hid (RowAt W3 w2.heap.size (wayL d o n) ∧ Below w.heap.size w W3) := Lib.hid ⟨hP, B.out.trans (hb.mono B.out.size)⟩; clear hP hb hz B; generalize w2.heap.size = D at S ⊢)
    | (go_at_call 9; (with_reducible refine (HR.out _).mono ?_); rintro e w' ⟨rfl, rfl⟩)
    | (with_reducible refine wpList_load_row wayT S.out.1 rfl rfl (.tmp 3) rfl rfl ?_)
    | (go_at_call 10; (with_reducible refine (HP.out _).mono ?_); rintro e w' ⟨rfl, rfl⟩)
    | (go_at_call 11; (with_reducible refine (HQ.out _).mono ?_); rintro e w' ⟨rfl, rfl⟩)
    | (go_at_call 12; (with_reducible refine (HI.out _).mono ?_); rintro e w4 ⟨rfl, hb⟩; replace S := Lib.hid (⟨RowAt.step S.out.1 hb, S.out.2.trans (hb.mono S.out.2.size)⟩ : RowAt w4 D (wayL d o n) ∧ Below w.heap.size w w4); clear hb))
  go_ret
  exact ⟨rfl, S.out.2⟩
theorem walk (i : Int) (w : World) (hs : i ≤ 9223372036854775807) :
    Calls Try.prog 3 #[.int .i64 i] w fun e w' => e = .returned (.bool true) ∧ Below w.heap.size w w' := by
  cases h : Sp.okB i with
  | false => exact walk_no i w hs h
  | true => exact walk_yes i w hs h
set_option maxRecDepth 100000 in
theorem lifted (os : Os) (started : os.Started) (H : Type) (enc : TypeId × Value → H) :
    ReturnsInHanded {} Try.checked os 3 .any (Rows.spanWaysSpec.pre6 enc Try.prog Try.f3 Rows.spanWaysRow.domain false) (Rows.spanWaysSpec.post enc Try.prog Try.f3 false true false false) := by
  refine returnsInHanded_of_change (C := Try.checked) own started (by kernel_rfl) Try.func3
    (ChangeSpec.witness6 (enc := enc) (C := Try.checked) false ⟨#[], #[.int .i64 0], []⟩ 8 (by kernel_rfl) (by kernel_rfl) (by kernel_rfl) (by kernel_rfl)) ?_
  intro W base args ds gs before hval0 hW hcnd _
  have hval : ∀ (j : Nat) t v, Try.f3.params[j]? = some t → args[j]? = some v → Value.okWide Try.prog W .any base t v := hval0
  have hW' := hW
  obtain ⟨p, q, hA0, hV, rfl, hfz, hnd⟩ := hW
  have hA : DataW.TrodAll enc Try.prog W 0 (fun _ => true) true Try.f3.params.toList args.toList ds p := hA0
  rw [Try.params3] at hA hval
  obtain ⟨v0, vs0, d0, ds0, p0, q0, hargs, rfl, rfl, h0, r0⟩ := trodAll_cons hA
  obtain ⟨rfl, rfl, rfl⟩ := trodAll_nil r0
  obtain rfl : args = #[v0] := by cases args; simp_all
  obtain ⟨rfl, rfl⟩ := trodVars_none hV
  have k0 := h0
  have lt0 : ∀ x ∈ p0, x.block < W.heap.size := by obtain ⟨m, hm⟩ := k0; exact DataW.trod_lt m _ _ _ hm
  obtain ⟨i, rfl, ed0, ep0, w0⟩ := open_int Try.underlying3 (hval 0 3 v0 rfl rfl) h0
  have hb0 := bounds_i64 w0
  clear hA0 hval0
  refine (walk i W (by omega)).mono fun e W' ⟨he, bel⟩ => ?_
  subst he
  exact ⟨_, rfl, _, _, _, [], _, [], hW', trodAll_mk1 (shut_bool Try.underlying4 _), (trodAll_cons_mk (Below.trod laidOut (by kernel_rfl) (of_decide_eq_true (by kernel_rfl)) k0 bel lt0) trodAll_mk0), rfl, bel.frame _, fun h => by cases h⟩
theorem over : Rows.spanWaysRow.holds Try.pinned (OpenSpec.ofChange Rows.spanWaysSpec) :=
  OpenClaim.holds_of_wide 3 Try.f3 rfl rfl rfl rfl rfl rfl rfl ⟨rfl, rfl, rfl, rfl, rfl⟩ rfl rfl rfl rfl rfl (by kernel_rfl) Try.func3 (by kernel_rfl)
    (of_decide_eq_true (by kernel_rfl)) (by unfold Func.isWrapper; first | (rw [if_pos (by decide +kernel)]; kernel_rfl) | (rw [if_neg (by decide +kernel)]; exact ⟨rfl, rfl⟩))
    (fun os started H enc _ => lifted os started H enc)

/-- THE STATEMENT -/
theorem proved : Rows.SpanWaysSaid := over
#print axioms proved
end Go.Proofs.Ytjobaoecomdipaa.spanWays
