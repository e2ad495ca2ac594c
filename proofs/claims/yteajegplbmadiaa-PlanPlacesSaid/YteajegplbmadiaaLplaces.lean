/-
  Proved: PlanPlaces returns true for all counts of pages and inodes and every number: each inode and each data page has its own place, as the document says; what isn't there has none.
  Conditions: none beside the statement's own.
-/
import Derived.Test.YteajegplbmadiaaLref
import Derived.Test.YteajegplbmadiaaLawake
import Derived.Test.YteajegplbmadiaaPopen
namespace Go.Proofs.Yteajegplbmadiaa.planPlaces
open Go.ChangeShapes Go.WideShapes Go.ChangeAt Go.RowKit

/-- what stands in memory: the plan, and the document's own -/
structure PpS (w0 : World) (C D : Nat) (p i d : Int) (W : World) : Prop where
  own : RowAt W C (planL p i)
  ref : RowAt W D (rplanL p i d)
  below : Below w0.heap.size w0 W
theorem PpS.call {w0 : World} {C D : Nat} {p i d : Int} {W W' : World} (k : PpS w0 C D p i d W) (hb : Below W.heap.size W W') : PpS w0 C D p i d W' :=
  ⟨RowAt.step k.own hb, RowAt.step k.ref hb, k.below.trans (hb.mono k.below.size)⟩

set_option maxRecDepth 100000 in
set_option maxHeartbeats 1000000 in
theorem walk_none (p i n : Int) (w : World) (h : Pl.rightB p i = false) :
    Calls Try.prog 5 #[.int .i64 p, .int .i64 i, .int .i64 n] w fun e w' => e = .returned (.bool true) ∧ Below w.heap.size w w' := by
  have HN := Lib.hid (fun w => plNew_no p i w h)
  have HR := Lib.hid (fun w => refNew_no p i w h)
  clear h
  go_enter Try.func5, Try.ntmps5
  go_wp2_with (first
    | (go_at_call 6; refine (awake_any _).mono ?_; rintro e w1 ⟨rfl, hb1⟩; have B := Lib.hid hb1; clear hb1)
    | (go_at_call 7; refine (HN.out _).mono ?_; rintro e w2 ⟨rfl, hb⟩; replace B := Lib.hid (B.out.trans (hb.mono B.out.size)); clear hb)
    | ((with_reducible refine wpList_store_newrow planT (vs := planL 0 0) rfl (planL_one _ _) rfl (.tmp 7) (.tmp 21) rfl rfl ?_ ?_ ?_); (exact rfl); (exact rfl); intro W3 hP hb hz3; replace B := Lib.hid (B.out.trans (hb.mono B.out.size)); clear hb hP hz3)
    | (go_at_call 8; refine (HR.out _).mono ?_; rintro e w4 ⟨rfl, hb⟩; replace B := Lib.hid (B.out.trans (hb.mono B.out.size)); clear hb)
    | ((with_reducible refine wpList_store_newrow rplanT (vs := rplanL 0 0 0) rfl (rplanL_one _ _ _) rfl (.tmp 9) (.tmp 27) rfl rfl ?_ ?_ ?_); (exact rfl); (exact rfl); intro W5 hP hb hz5; replace B := Lib.hid (B.out.trans (hb.mono B.out.size)); clear hb hP hz5))
  have hb := B.out
  go_ret
  exact ⟨rfl, hb⟩

set_option maxRecDepth 100000 in
set_option maxHeartbeats 8000000 in
theorem walk_some (p i n : Int) (w : World) (h : Pl.rightB p i = true) :
    Calls Try.prog 5 #[.int .i64 p, .int .i64 i, .int .i64 n] w fun e w' => e = .returned (.bool true) ∧ Below w.heap.size w w' := by
  have HN := Lib.hid (fun w => plNew_yes p i w h)
  have HR := Lib.hid (fun w => refNew_yes p i w h)
  obtain ⟨r1, r2, r3, r4⟩ := Pl.right_yes h
  obtain ⟨r5, r6⟩ := Pl.data_bd r1 r2
  have hplace : (n < 1 ∧ Hid (∀ w, Calls Try.prog 20 #[planV p i, .int .i64 n] w fun e w' => e = .returned (.tuple #[.int .i64 0, .int .i64 0]) ∧ Below w.heap.size w w')) ∨
      (1 ≤ n ∧ i < n ∧ Hid (∀ w, Calls Try.prog 20 #[planV p i, .int .i64 n] w fun e w' => e = .returned (.tuple #[.int .i64 0, .int .i64 0]) ∧ Below w.heap.size w w')) ∨
      (1 ≤ n ∧ n ≤ i ∧ 43 + (n - 1) / 2 < Pl.dataN i ∧ Hid (∀ w, Calls Try.prog 20 #[planV p i, .int .i64 n] w fun e w' => e = .returned (.tuple #[.int .i64 (43 + (n - 1) / 2), .int .i64 ((n - 1) % 2)]) ∧ Below w.heap.size w w')) := by
    by_cases c : n < 1
    · exact .inl ⟨c, Lib.hid (fun w => place_no p i n w h (.inl c))⟩
    · by_cases c2 : i < n
      · exact .inr (.inl ⟨by omega, c2, Lib.hid (fun w => place_no p i n w h (.inr c2))⟩)
      · exact .inr (.inr ⟨by omega, by omega, by unfold Pl.dataN; omega, Lib.hid (fun w => place_yes p i n w h (by omega) (by omega))⟩)
  have hbit : (n < Pl.dataN i ∧ Hid (∀ w, Calls Try.prog 16 #[planV p i, .int .i64 n] w fun e w' => e = .returned (.int .i64 (-1)) ∧ Below w.heap.size w w')) ∨
      (Pl.dataN i ≤ n ∧ p ≤ n ∧ Hid (∀ w, Calls Try.prog 16 #[planV p i, .int .i64 n] w fun e w' => e = .returned (.int .i64 (-1)) ∧ Below w.heap.size w w')) ∨
      (Pl.dataN i ≤ n ∧ n < p ∧ Hid (∀ w, Calls Try.prog 16 #[planV p i, .int .i64 n] w fun e w' => e = .returned (.int .i64 (n - Pl.dataN i)) ∧ Below w.heap.size w w')) := by
    by_cases c : n < Pl.dataN i
    · exact .inl ⟨c, Lib.hid (fun w => bit_no p i n w h (.inl c))⟩
    · by_cases c2 : p ≤ n
      · exact .inr (.inl ⟨by omega, c2, Lib.hid (fun w => bit_no p i n w h (.inr c2))⟩)
      · exact .inr (.inr ⟨by omega, by omega, Lib.hid (fun w => bit_yes p i n w h (by omega) (by omega))⟩)
  have hat : (n < 0 ∧ Hid (∀ w, Calls Try.prog 17 #[planV p i, .int .i64 n] w fun e w' => e = .returned (.int .i64 0) ∧ Below w.heap.size w w')) ∨
      (0 ≤ n ∧ p - Pl.dataN i ≤ n ∧ Hid (∀ w, Calls Try.prog 17 #[planV p i, .int .i64 n] w fun e w' => e = .returned (.int .i64 0) ∧ Below w.heap.size w w')) ∨
      (0 ≤ n ∧ n < p - Pl.dataN i ∧ Hid (∀ w, Calls Try.prog 17 #[planV p i, .int .i64 n] w fun e w' => e = .returned (.int .i64 (Pl.dataN i + n)) ∧ Below w.heap.size w w')) := by
    by_cases c : n < 0
    · exact .inl ⟨c, Lib.hid (fun w => at_no p i n w h (.inl c))⟩
    · by_cases c2 : p - Pl.dataN i ≤ n
      · exact .inr (.inl ⟨by omega, c2, Lib.hid (fun w => at_no p i n w h (.inr c2))⟩)
      · exact .inr (.inr ⟨by omega, by omega, Lib.hid (fun w => at_yes p i n w h (by omega) (by omega))⟩)
  clear h
  generalize Pl.dataN i = d at *
  rcases hplace with ⟨n1, HP⟩ | ⟨n1, n2, HP⟩ | ⟨n1, n2, n3, HP⟩ <;> rcases hbit with ⟨b1, HB⟩ | ⟨b1, b2, HB⟩ | ⟨b1, b2, HB⟩ <;> rcases hat with ⟨a1, HA⟩ | ⟨a1, a2, HA⟩ | ⟨a1, a2, HA⟩ <;> first
    | (exfalso; omega)
    | skip
  all_goals
    go_enter Try.func5, Try.ntmps5
    go_wp2_with (first
      | (go_at_call 6; refine (awake_any _).mono ?_; rintro e w1 ⟨rfl, hb1⟩; have B := Lib.hid hb1; clear hb1)
      | (go_at_call 7; refine (HN.out _).mono ?_; rintro e w2 ⟨rfl, hb⟩; replace B := Lib.hid (B.out.trans (hb.mono B.out.size)); clear hb)
      | ((with_reducible refine wpList_store_newrow planT (vs := planL p i) rfl (planL_one _ _) rfl (.tmp 7) (.tmp 21) rfl rfl ?_ ?_ ?_); (exact rfl); (exact rfl); intro W3 hP hb hz3; have P3 := Lib.hid hP; replace B := Lib.hid (B.out.trans (hb.mono B.out.size)); clear hb hP hz3; generalize w2.heap.size = C at P3 ⊢)
      | (go_at_call 8; refine (HR.out _).mono ?_; rintro e w4 ⟨rfl, hb⟩; replace P3 := Lib.hid (RowAt.step P3.out hb); replace B := Lib.hid (B.out.trans (hb.mono B.out.size)); clear hb)
      | ((with_reducible refine wpList_store_newrow rplanT (vs := rplanL p i d) rfl (rplanL_one _ _ _) rfl (.tmp 9) (.tmp 27) rfl rfl ?_ ?_ ?_); (exact rfl); (exact rfl); intro W5 hP hb hz5; have S : Hid (PpS w C w4.heap.size p i d W5) := Lib.hid ⟨RowAt.step P3.out hb, hP, B.out.trans (hb.mono B.out.size)⟩; clear hb hP hz5 B P3; generalize w4.heap.size = D at S ⊢)
      | (with_reducible refine wpList_load_row planT S.out.own rfl rfl (.tmp 7) rfl rfl ?_)
      | ((with_reducible refine wpList_loadg_row planT S.out.own rfl (.tmp 7) rfl rfl ?_ ?_); (exact rfl))
      | (go_at_call 20; refine (HP.out _).mono ?_; rintro e w6 ⟨rfl, hb⟩; replace S := Lib.hid (S.out.call hb); clear hb; have q2 := RowAt.cell S.out.ref 2 _ rfl)
      | (go_at_call 16; refine (HB.out _).mono ?_; rintro e w7 ⟨rfl, hb⟩; replace S := Lib.hid (S.out.call hb); clear hb q2)
      | (go_at_call 17; refine (HA.out _).mono ?_; rintro e w8 ⟨rfl, hb⟩; replace S := Lib.hid (S.out.call hb); clear hb))
    have hs := S.out.below
    go_ret
    exact ⟨rfl, hs⟩
theorem walk (p i n : Int) (w : World) :
    Calls Try.prog 5 #[.int .i64 p, .int .i64 i, .int .i64 n] w fun e w' => e = .returned (.bool true) ∧ Below w.heap.size w w' := by
  cases h : Pl.rightB p i with
  | true => exact walk_some p i n w h
  | false => exact walk_none p i n w h
set_option maxRecDepth 100000 in
theorem lifted (os : Os) (started : os.Started) (H : Type) (enc : TypeId × Value → H) :
    ReturnsInHanded {} Try.checked os 5 .any (Rows.planPlacesSpec.pre6 enc Try.prog Try.f5 Rows.planPlacesRow.domain false) (Rows.planPlacesSpec.post enc Try.prog Try.f5 false true false false) := by
  refine returnsInHanded_of_change (C := Try.checked) own started (by kernel_rfl) Try.func5
    (ChangeSpec.witness6 (enc := enc) (C := Try.checked) false ⟨#[], #[.int .i64 0, .int .i64 0, .int .i64 0], []⟩ 8 (by kernel_rfl) (by kernel_rfl) (by kernel_rfl) (by kernel_rfl)) ?_
  intro W base args ds gs before hval0 hW hcnd _
  have hval : ∀ (j : Nat) t v, Try.f5.params[j]? = some t → args[j]? = some v → Value.okWide Try.prog W .any base t v := hval0
  have hW' := hW
  obtain ⟨p, q, hA0, hV, rfl, hfz, hnd⟩ := hW
  have hA : DataW.TrodAll enc Try.prog W 0 (fun _ => true) true Try.f5.params.toList args.toList ds p := hA0
  rw [Try.params5] at hA hval
  obtain ⟨v0, vs0, d0, ds0, p0, q0, hargs, rfl, rfl, h0, r0⟩ := trodAll_cons hA
  obtain ⟨v1, vs1, d1, ds1, p1, q1, rfl, rfl, rfl, h1, r1⟩ := trodAll_cons r0
  obtain ⟨v2, vs2, d2, ds2, p2, q2, rfl, rfl, rfl, h2, r2⟩ := trodAll_cons r1
  obtain ⟨rfl, rfl, rfl⟩ := trodAll_nil r2
  obtain rfl : args = #[v0, v1, v2] := by cases args; simp_all
  obtain ⟨rfl, rfl⟩ := trodVars_none hV
  have k0 := h0
  have lt0 : ∀ x ∈ p0, x.block < W.heap.size := by obtain ⟨m, hm⟩ := k0; exact DataW.trod_lt m _ _ _ hm
  have k1 := h1
  have lt1 : ∀ x ∈ p1, x.block < W.heap.size := by obtain ⟨m, hm⟩ := k1; exact DataW.trod_lt m _ _ _ hm
  have k2 := h2
  have lt2 : ∀ x ∈ p2, x.block < W.heap.size := by obtain ⟨m, hm⟩ := k2; exact DataW.trod_lt m _ _ _ hm
  obtain ⟨x0, rfl, ed0, ep0, w0⟩ := open_int Try.underlying3 (hval 0 3 v0 rfl rfl) h0
  obtain ⟨x1, rfl, ed1, ep1, w1⟩ := open_int Try.underlying3 (hval 1 3 v1 rfl rfl) h1
  obtain ⟨x2, rfl, ed2, ep2, w2⟩ := open_int Try.underlying3 (hval 2 3 v2 rfl rfl) h2
  clear hA0 hval0
  refine (walk x0 x1 x2 W).mono fun e W' ⟨he, bel⟩ => ?_
  subst he
  exact ⟨_, rfl, _, _, _, [], _, [], hW', trodAll_mk1 (shut_bool Try.underlying4 _), (trodAll_cons_mk (Below.trod laidOut (by kernel_rfl) (of_decide_eq_true (by kernel_rfl)) k0 bel lt0) (trodAll_cons_mk (Below.trod laidOut (by kernel_rfl) (of_decide_eq_true (by kernel_rfl)) k1 bel lt1) (trodAll_cons_mk (Below.trod laidOut (by kernel_rfl) (of_decide_eq_true (by kernel_rfl)) k2 bel lt2) trodAll_mk0))), rfl, bel.frame _, fun h => by cases h⟩
theorem over : Rows.planPlacesRow.holds Try.pinned (OpenSpec.ofChange Rows.planPlacesSpec) :=
  OpenClaim.holds_of_wide 5 Try.f5 rfl rfl rfl rfl rfl rfl rfl ⟨rfl, rfl, rfl, rfl, rfl⟩ rfl rfl rfl rfl rfl (by kernel_rfl) Try.func5 (by kernel_rfl)
    (of_decide_eq_true (by kernel_rfl)) (by unfold Func.isWrapper; first | (rw [if_pos (by decide +kernel)]; kernel_rfl) | (rw [if_neg (by decide +kernel)]; exact ⟨rfl, rfl⟩))
    (fun os started H enc _ => lifted os started H enc)

/-- THE STATEMENT -/
theorem proved : Rows.PlanPlacesSaid := over
#print axioms proved
end Go.Proofs.Yteajegplbmadiaa.planPlaces
