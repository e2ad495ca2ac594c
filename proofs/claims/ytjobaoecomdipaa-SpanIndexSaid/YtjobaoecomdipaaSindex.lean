/-
  Proved: SpanIndex returns true for all ways: a way leads to a page just if that page is found so.
  Conditions: none beside the statement's own.
-/
import Derived.Test.YtjobaoecomdipaaSawake
namespace Go.Proofs.Ytjobaoecomdipaa.spanIndex
open Go.ChangeShapes Go.WideShapes Go.ChangeAt Go.RowKit

/-- what stands in memory: the way -/
structure WayS (w0 : World) (D : Nat) (d o n : Int) (W : World) : Prop where
  row : RowAt W D (wayL d o n)
  below : Below w0.heap.size w0 W
theorem WayS.call {w0 : World} {D : Nat} {d o n : Int} {W W' : World} (k : WayS w0 D d o n W) (hb : Below W.heap.size W W') : WayS w0 D d o n W' := ⟨RowAt.step k.row hb, k.below.trans (hb.mono k.below.size)⟩
set_option maxRecDepth 100000 in
set_option maxHeartbeats 4000000 in
theorem walk_yes (d o n : Int) (w : World) (h : Sp.idxB d o n = true) :
    Calls Try.prog 4 #[wayV d o n] w fun e w' => e = .returned (.bool true) ∧ Below w.heap.size w w' := by
  obtain ⟨e0, e1, e2, e3⟩ := Sp.where_idx d o n h
  have HI : Hid (∀ w, Calls Try.prog 12 #[.agg (wayL d o n).toArray] w fun e w' => e = .returned (.tuple #[.int .i64 (Sp.idx d o n), .bool true]) ∧ Below w.heap.size w w') := Lib.hid (fun w => by
    have := index_any d o n w
    unfold IndexGives at this
    rw [h] at this
    exact this)
  have HW : Hid (∀ w, Calls Try.prog 8 #[.int .i64 (Sp.idx d o n)] w fun e w' => e = .returned (.tuple #[.agg (wayL d o n).toArray, .bool true]) ∧ Below w.heap.size w w') := Lib.hid (fun w => by
    have := where_any (Sp.idx d o n) w
    unfold WhereGives at this
    rw [e0, e1, e2, e3] at this
    exact this)
  clear e0 e1 e2 e3 h
  generalize Sp.idx d o n = k at HI HW
  have E1 : ∀ (a b : Operand) (w : World), (eqGuard .eql 24 a b (.agg (wayL d o n).toArray) (.agg (wayL d o n).toArray)).run Try.prog w = .ok () w := fun a b w => run_eqGuard_way w a b d o n d o n
  have E2 : ∀ (w : World), (binOp .eql 24 (.agg (wayL d o n).toArray) (.agg (wayL d o n).toArray)).run Try.prog w = .ok (.bool true) w := fun w => (run_eql_way w d o n d o n).trans (by simp)
  unfold wayV
  go_enter Try.func4, Try.ntmps4
  go_wp2_with fail
  have S : Hid (WayS w w.heap.size d o n (w.alloc (.cells #[.int .i64 d, .int .i64 o, .int .i64 n] 24))) := Lib.hid ⟨(way_box w d o n).1, (way_box w d o n).2⟩
  generalize w.alloc (.cells #[.int .i64 d, .int .i64 o, .int .i64 n] 24) = w0 at S ⊢
  generalize hD : w.heap.size = D at S ⊢
  clear hD
  refine (awake_any _).mono ?_
  rintro e w1 ⟨rfl, hb⟩
  replace S := Lib.hid (S.out.call hb)
  clear hb
  go_wp2_with (first
    | (go_at_call 12; (with_reducible refine (HI.out _).mono ?_); rintro e w2 ⟨rfl, hb⟩; replace S := Lib.hid (S.out.call hb); clear hb)
    | (with_reducible refine wpList_load_row wayT S.out.row rfl rfl (.tmp 1) rfl rfl ?_)
    | ((with_reducible refine wpList_loadg_row wayT S.out.row rfl (.tmp 1) rfl rfl ?_ ?_); (exact rfl))
    | (go_at_call 8; (with_reducible refine (HW.out _).mono ?_); rintro e w3 ⟨rfl, hb⟩; replace S := Lib.hid (S.out.call hb); clear hb)
    | ((with_reducible refine wpList_store_newrow wayT (vs := wayL d o n) rfl (wayL_one _ _ _) rfl (.tmp 8) (.tmp 36) rfl rfl ?_ ?_ ?_); (exact rfl); (exact rfl); intro W4 hP hb hz; replace S := Lib.hid (S.out.call hb); have F := Lib.hid hP; clear hP hb hz; generalize w3.heap.size = E at F ⊢)
    | ((with_reducible refine wpList_loadg_row wayT F.out rfl (.tmp 8) rfl rfl ?_ ?_); (exact rfl)))
  go_ret
  exact ⟨rfl, S.out.below⟩
set_option maxRecDepth 100000 in
set_option maxHeartbeats 4000000 in
theorem walk_no (d o n : Int) (w : World) (h : Sp.idxB d o n = false) :
    Calls Try.prog 4 #[wayV d o n] w fun e w' => e = .returned (.bool true) ∧ Below w.heap.size w w' := by
  have HN := Lib.hid (fun i hi => Sp.no_way h i hi)
  have HI : Hid (∀ w, Calls Try.prog 12 #[.agg (wayL d o n).toArray] w fun e w' => e = .returned (.tuple #[.int .i64 0, .bool false]) ∧ Below w.heap.size w w') := Lib.hid (fun w => by
    have := index_any d o n w
    unfold IndexGives at this
    rw [h, idx_no h] at this
    exact this)
  clear h
  unfold wayV
  go_enter Try.func4, Try.ntmps4
  go_wp2_with fail
  have S : Hid (WayS w w.heap.size d o n (w.alloc (.cells #[.int .i64 d, .int .i64 o, .int .i64 n] 24))) := Lib.hid ⟨(way_box w d o n).1, (way_box w d o n).2⟩
  generalize w.alloc (.cells #[.int .i64 d, .int .i64 o, .int .i64 n] 24) = w0 at S ⊢
  generalize hD : w.heap.size = D at S ⊢
  clear hD
  refine (awake_any _).mono ?_
  rintro e w1 ⟨rfl, hb⟩
  replace S := Lib.hid (S.out.call hb)
  clear hb
  go_wp2_with (first
    | (go_at_call 12; (with_reducible refine (HI.out _).mono ?_); rintro e w2 ⟨rfl, hb⟩; replace S := Lib.hid (S.out.call hb); clear hb)
    | (with_reducible refine wpList_load_row wayT S.out.row rfl rfl (.tmp 1) rfl rfl ?_))
  go_loopw [5] (fun i wr => ∃ k : Nat, k ≤ 1060 ∧ i = .int .i64 (k : Int) ∧ WayS w D d o n wr) (fun i _ => 1060 - (intOf i).toNat)
  case atStart => exact ⟨0, Nat.zero_le _, rfl, S.out⟩
  case round =>
    obtain ⟨k, hk, rfl, hS⟩ := hrel
    replace S := Lib.hid hS
    clear hS
    by_cases hlt : k < 1060
    · have hok : Sp.okB (k : Int) = true := by unfold Sp.okB; rw [decide_eq_true_eq]; omega
      have hno := HN.out (k : Int) hok
      have HW : Hid (∀ w, Calls Try.prog 8 #[.int .i64 (k : Int)] w fun e w' => e = .returned (.tuple #[.agg (wayL (Sp.dep (k : Int)) (Sp.out (k : Int)) (Sp.inn (k : Int))).toArray, .bool true]) ∧ Below w.heap.size w w') := Lib.hid (fun w => by
        have := where_any (k : Int) w
        unfold WhereGives at this
        rw [hok] at this
        exact this)
      clear hok
      generalize Sp.dep (k : Int) = x at HW hno
      generalize Sp.out (k : Int) = y at HW hno
      generalize Sp.inn (k : Int) = z at HW hno
      have E1 : ∀ (a b : Operand) (w : World), (eqGuard .eql 24 a b (.agg (wayL x y z).toArray) (.agg (wayL d o n).toArray)).run Try.prog w = .ok () w := fun a b w => run_eqGuard_way w a b x y z d o n
      have E2 : ∀ (w : World), (binOp .eql 24 (.agg (wayL x y z).toArray) (.agg (wayL d o n).toArray)).run Try.prog w = .ok (.bool false) w := fun w => (run_eql_way w x y z d o n).trans (by rw [decide_eq_false hno])
      clear hno
      go_wp2_with (first
        | (go_at_call 8; (with_reducible refine (HW.out _).mono ?_); rintro e w3 ⟨rfl, hb⟩; replace S := Lib.hid (S.out.call hb); clear hb)
        | ((with_reducible refine wpList_store_newrow wayT (vs := wayL x y z) rfl (wayL_one _ _ _) rfl (.tmp 6) (.tmp 26) rfl rfl ?_ ?_ ?_); (exact rfl); (exact rfl); intro W4 hP hb hz; replace S := Lib.hid (S.out.call hb); have F := Lib.hid hP; clear hP hb hz; generalize w3.heap.size = E at F ⊢)
        | (with_reducible refine wpList_load_row wayT F.out rfl rfl (.tmp 6) rfl rfl ?_)
        | (with_reducible refine wpList_load_row wayT S.out.row rfl rfl (.tmp 1) rfl rfl ?_))
      go_roundw
      case rel => exact ⟨k + 1, by omega, by go_num, S.out⟩
      case measure => simp [intOf]; omega
    · go_wp2_with fail
      go_ret
      exact ⟨rfl, S.out.below⟩
theorem walk (d o n : Int) (w : World) :
    Calls Try.prog 4 #[wayV d o n] w fun e w' => e = .returned (.bool true) ∧ Below w.heap.size w w' := by
  cases h : Sp.idxB d o n with
  | false => exact walk_no d o n w h
  | true => exact walk_yes d o n w h
set_option maxRecDepth 100000 in
theorem lifted (os : Os) (started : os.Started) (H : Type) (enc : TypeId × Value → H) :
    ReturnsInHanded {} Try.checked os 4 .any (Rows.spanIndexSpec.pre6 enc Try.prog Try.f4 Rows.spanIndexRow.domain false) (Rows.spanIndexSpec.post enc Try.prog Try.f4 false true false false) := by
  refine returnsInHanded_of_change (C := Try.checked) own started (by kernel_rfl) Try.func4
    (ChangeSpec.witness6 (enc := enc) (C := Try.checked) false ⟨#[], #[.agg #[.int .i64 0, .int .i64 0, .int .i64 0]], []⟩ 8 (by kernel_rfl) (by kernel_rfl) (by kernel_rfl) (by kernel_rfl)) ?_
  intro W base args ds gs before hval0 hW hcnd _
  have hval : ∀ (j : Nat) t v, Try.f4.params[j]? = some t → args[j]? = some v → Value.okWide Try.prog W .any base t v := hval0
  have hW' := hW
  obtain ⟨p, q, hA0, hV, rfl, hfz, hnd⟩ := hW
  have hA : DataW.TrodAll enc Try.prog W 0 (fun _ => true) true Try.f4.params.toList args.toList ds p := hA0
  rw [Try.params4] at hA hval
  obtain ⟨v0, vs0, d0, ds0, p0, q0, hargs, rfl, rfl, h0, r0⟩ := trodAll_cons hA
  obtain ⟨rfl, rfl, rfl⟩ := trodAll_nil r0
  obtain rfl : args = #[v0] := by cases args; simp_all
  obtain ⟨rfl, rfl⟩ := trodVars_none hV
  have k0 := h0
  have lt0 : ∀ x ∈ p0, x.block < W.heap.size := by obtain ⟨m, hm⟩ := k0; exact DataW.trod_lt m _ _ _ hm
  obtain ⟨x, o, n, rfl⟩ := open_way (hval 0 24 v0 rfl rfl) h0
  clear hA0 hval0
  refine (walk x o n W).mono fun e W' ⟨he, bel⟩ => ?_
  subst he
  exact ⟨_, rfl, _, _, _, [], _, [], hW', trodAll_mk1 (shut_bool Try.underlying4 _), (trodAll_cons_mk (Below.trod laidOut (by kernel_rfl) (of_decide_eq_true (by kernel_rfl)) k0 bel lt0) trodAll_mk0), rfl, bel.frame _, fun h => by cases h⟩
theorem over : Rows.spanIndexRow.holds Try.pinned (OpenSpec.ofChange Rows.spanIndexSpec) :=
  OpenClaim.holds_of_wide 4 Try.f4 rfl rfl rfl rfl rfl rfl rfl ⟨rfl, rfl, rfl, rfl, rfl⟩ rfl rfl rfl rfl rfl (by kernel_rfl) Try.func4 (by kernel_rfl)
    (of_decide_eq_true (by kernel_rfl)) (by unfold Func.isWrapper; first | (rw [if_pos (by decide +kernel)]; kernel_rfl) | (rw [if_neg (by decide +kernel)]; exact ⟨rfl, rfl⟩))
    (fun os started H enc _ => lifted os started H enc)

/-- THE STATEMENT -/
theorem proved : Rows.SpanIndexSaid := over
#print axioms proved
end Go.Proofs.Ytjobaoecomdipaa.spanIndex
