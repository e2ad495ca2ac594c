/-
  Proved: PlanReads returns true for every page: it is the super page of just one plan, or of none.
  Conditions: none beside the statement's own.
-/
import Derived.Test.YteajegplbmadiaaLread
import Derived.Test.YteajegplbmadiaaLref
import Derived.Test.YteajegplbmadiaaLawake
namespace Go.Proofs.Yteajegplbmadiaa.planReads
open Go.ChangeShapes Go.WideShapes Go.ChangeAt Go.RowKit

/-- what stands in memory: the page -/
structure PrS (w0 : World) (x : List UInt8) (W : World) : Prop where
  page : PageAt W w0.heap.size x
  below : Below w0.heap.size w0 W
theorem PrS.call {w0 : World} {x : List UInt8} {W W' : World} (k : PrS w0 x W) (hb : Below W.heap.size W W') : PrS w0 x W' := ⟨k.page.step hb, k.below.trans (hb.mono k.below.size)⟩
theorem box (w : World) (x : List UInt8) (hx : x.length = 64) {w' : World} (hb : Below (w.heap.size + 1) (w.alloc (.cells (byteVals x).toArray 33)) w') : PrS w x w' :=
  ⟨(pageAt_new w x 33 hx).below hb (by omega), ((Below.refl _ _).alloc (Nat.le_refl _) _).trans (hb.mono (by omega))⟩

set_option maxRecDepth 100000 in
set_option maxHeartbeats 2000000 in
theorem walk_yes (x : List UInt8) (w : World) (hx : x.length = 64) (hr : Pl.readB x = true) :
    Calls Try.prog 4 #[pageV x] w fun e w' => e = .returned (.bool true) ∧ Below w.heap.size w w' := by
  have HX := Lib.hid (fun (w' : World) hb => box w x hx (w' := w') hb)
  have HL := Lib.hid hx
  have HR : Hid (∀ w, Calls Try.prog 18 #[pageV x] w fun e w' => e = .returned (.tuple #[planV (Pg.getN x 4 2) (Pg.getN x 6 2), .int .i64 0]) ∧ Below w.heap.size w w') := Lib.hid (fun w => by
    have := read_any x w hx
    rw [if_pos hr] at this
    exact this)
  have hb := hr
  unfold Pl.readB at hb
  rw [Bool.and_eq_true, decide_eq_true_eq] at hb
  have HS : Hid (∀ w, Calls Try.prog 9 #[planV (Pg.getN x 4 2) (Pg.getN x 6 2)] w fun e w' => e = .returned (.tuple #[pageV x, .int .i64 0]) ∧ Below w.heap.size w w') := Lib.hid (fun w => by
    have := super_yes (Pg.getN x 4 2) (Pg.getN x 6 2) w hb.1
    rw [hb.2] at this
    exact this)
  have E1 := fun (a b : Operand) (w : World) => run_eqGuard_page w a b x x
  have E2 := fun (w : World) => run_eql_same w x hx
  clear hb hr hx
  generalize Pg.getN x 4 2 = p at *
  generalize Pg.getN x 6 2 = i at *
  unfold pageV
  go_enter Try.func4, Try.ntmps4
  go_wp2_with (first
    | (go_at_call 6; refine (awake_any _).mono ?_; rintro e w1 ⟨rfl, hb1⟩; have S := Lib.hid (HX.out w1 (by simpa using hb1)); clear hb1 HX)
    | (with_reducible refine wpList_load_page S.out.page rfl (.tmp 1) rfl rfl ?_)
    | (go_at_call 18; refine (HR.out _).mono ?_; rintro e w2 ⟨rfl, hb⟩; replace S := Lib.hid (S.out.call hb); clear hb HR)
    | ((with_reducible refine wpList_store_newrow planT (vs := planL p i) rfl (planL_one _ _) rfl (.tmp 3) (.tmp 14) rfl rfl ?_ ?_ ?_); (exact rfl); (exact rfl); intro W3 hP hb3 hz3; have R := Lib.hid hP; replace S := Lib.hid (S.out.call hb3); clear hP hb3 hz3; generalize w2.heap.size = D at R ⊢)
    | (with_reducible refine wpList_load_row planT R.out rfl rfl (.tmp 3) rfl rfl ?_)
    | (go_at_call 9; refine (HS.out _).mono ?_; rintro e w4 ⟨rfl, hb⟩; replace S := Lib.hid (S.out.call hb); clear hb HS R)
    | ((with_reducible refine wpList_store_new rfl (.tmp 7) (.tmp 56) rfl rfl ?_ ?_ HL.out ?_); (exact rfl); (exact rfl); intro W5 hP hb5 hz5; have P := Lib.hid hP; replace S := Lib.hid (S.out.call hb5); clear hP hb5 hz5; generalize w4.heap.size = D2 at P ⊢)
    | ((with_reducible refine wpList_load_guarded P.out (.tmp 7) rfl rfl ?_ ?_); (exact rfl))
    | ((with_reducible refine wpList_load_guarded S.out.page (.tmp 1) rfl rfl ?_ ?_); (exact rfl)))
  have hs := S.out.below
  go_ret
  exact ⟨rfl, hs⟩

set_option maxRecDepth 100000 in
set_option maxHeartbeats 2000000 in
theorem walk_no (x : List UInt8) (w : World) (hx : x.length = 64) (hr : Pl.readB x = false) :
    Calls Try.prog 4 #[pageV x] w fun e w' => e = .returned (.bool true) ∧ Below w.heap.size w w' := by
  have HX := Lib.hid (fun (w' : World) hb => box w x hx (w' := w') hb)
  have HL := Lib.hid hx
  have HR : Hid (∀ w, Calls Try.prog 18 #[pageV x] w fun e w' => e = .returned (.tuple #[planV 0 0, .int .i64 22]) ∧ Below w.heap.size w w') := Lib.hid (fun w => by
    have := read_any x w hx
    rw [if_neg (by rw [hr]; exact Bool.false_ne_true)] at this
    exact this)
  have E3 : ∀ (a b : Operand) (w : World), (eqGuard .neq 24 a b (.agg (planL 0 0).toArray) (.agg #[.int .i64 0, .int .i64 0])).run Try.prog w = .ok () w := fun a b w => run_neGuard_plan w a b 0 0 0 0
  have E4 : ∀ (w : World), (binOp .neq 24 (.agg (planL 0 0).toArray) (.agg #[.int .i64 0, .int .i64 0])).run Try.prog w = .ok (.bool false) w := fun w => run_neq_plan w 0 0 0 0
  have e4 : ((x.getD 4 0).toNat : Int) * 256 + ((x.getD 5 0).toNat : Int) = Pg.getN x 4 2 := (Pl.get_two x hx 4 (by omega)).symm
  have e6 : ((x.getD 6 0).toNat : Int) * 256 + ((x.getD 7 0).toNat : Int) = Pg.getN x 6 2 := (Pl.get_two x hx 6 (by omega)).symm
  have b4 := (x.getD 4 0).toNat_lt
  have b5 := (x.getD 5 0).toNat_lt
  have b6 := (x.getD 6 0).toNat_lt
  have b7 := (x.getD 7 0).toNat_lt
  have hc : ∀ W, PageAt W w.heap.size x → W.cell? ⟨w.heap.size, 4, none⟩ = some (.int .u8 ((x.getD 4 0).toNat : Int)) ∧ W.cell? ⟨w.heap.size, 5, none⟩ = some (.int .u8 ((x.getD 5 0).toNat : Int)) ∧ W.cell? ⟨w.heap.size, 6, none⟩ = some (.int .u8 ((x.getD 6 0).toNat : Int)) ∧ W.cell? ⟨w.heap.size, 7, none⟩ = some (.int .u8 ((x.getD 7 0).toNat : Int)) :=
    fun W h => ⟨h.cell 4 (by omega), h.cell 5 (by omega), h.cell 6 (by omega), h.cell 7 (by omega)⟩
  have HC := Lib.hid hc; clear hc
  generalize (x.getD 4 0).toNat = c4 at *
  generalize (x.getD 5 0).toNat = c5 at *
  generalize (x.getD 6 0).toNat = c6 at *
  generalize (x.getD 7 0).toNat = c7 at *
  unfold Pl.readB at hr
  cases hq : Pl.rightB (Pg.getN x 4 2) (Pg.getN x 6 2) with
  | false =>
    have HN : Hid (∀ w, Calls Try.prog 8 #[.int .i64 ((c4 : Int) * 256 + (c5 : Int)), .int .i64 ((c6 : Int) * 256 + (c7 : Int))] w fun e w' => e = .returned (.tuple #[rplanV 0 0 0, .bool false]) ∧ Below w.heap.size w w') := Lib.hid (fun w => by
      rw [e4, e6]; exact refNew_no _ _ w hq)
    clear e4 e6 hr hq
    unfold pageV
    go_enter Try.func4, Try.ntmps4
    go_wp2_with (first
      | (go_at_call 6; refine (awake_any _).mono ?_; rintro e w1 ⟨rfl, hb1⟩; have S := Lib.hid (HX.out w1 (by simpa using hb1)); clear hb1 HX)
      | (with_reducible refine wpList_load_page S.out.page rfl (.tmp 1) rfl rfl ?_)
      | (go_at_call 18; refine (HR.out _).mono ?_; rintro e w2 ⟨rfl, hb⟩; replace S := Lib.hid (S.out.call hb); clear hb HR)
      | ((with_reducible refine wpList_store_newrow planT (vs := planL 0 0) rfl (planL_one _ _) rfl (.tmp 3) (.tmp 14) rfl rfl ?_ ?_ ?_); (exact rfl); (exact rfl); intro W3 hP hb3 hz3; have R := Lib.hid hP; replace S := Lib.hid (S.out.call hb3); clear hP hb3 hz3; generalize w2.heap.size = D at R ⊢; obtain ⟨q4, q5, q6, q7⟩ := HC.out _ S.out.page)
      | ((with_reducible refine wpList_loadg_row planT R.out rfl (.tmp 3) rfl rfl ?_ ?_); (exact rfl))
      | (go_at_call 8; refine (HN.out _).mono ?_; rintro e w4 ⟨rfl, hb⟩; replace S := Lib.hid (S.out.call hb); clear hb HN R q4 q5 q6 q7)
      | ((with_reducible refine wpList_store_newrow rplanT (vs := rplanL 0 0 0) rfl (rplanL_one _ _ _) rfl (.tmp 5) (.tmp 43) rfl rfl ?_ ?_ ?_); (exact rfl); (exact rfl); intro W5 hP hb5 hz5; replace S := Lib.hid (S.out.call hb5); clear hP hb5 hz5))
    go_quiet (fail)
    go_wp2
    have hs := S.out.below
    go_ret
    exact ⟨rfl, hs.trans (below_drewN _ _ _)⟩
  | true =>
    rw [hq, Bool.true_and, decide_eq_false_iff_not] at hr
    have HN : Hid (∀ w, Calls Try.prog 8 #[.int .i64 ((c4 : Int) * 256 + (c5 : Int)), .int .i64 ((c6 : Int) * 256 + (c7 : Int))] w fun e w' => e = .returned (.tuple #[rplanV (Pg.getN x 4 2) (Pg.getN x 6 2) (Pl.dataN (Pg.getN x 6 2)), .bool true]) ∧ Below w.heap.size w w') := Lib.hid (fun w => by
      rw [e4, e6]; exact refNew_yes _ _ w hq)
    have HS := Lib.hid (fun w => refSuper_any (Pg.getN x 4 2) (Pg.getN x 6 2) (Pl.dataN (Pg.getN x 6 2)) w)
    have E1 := fun (a b : Operand) (w : World) => run_neGuard_page w a b (Pl.superP (Pg.getN x 4 2) (Pg.getN x 6 2)) x
    have E2 : ∀ (w : World), (binOp .neq 33 (pageV (Pl.superP (Pg.getN x 4 2) (Pg.getN x 6 2))) (pageV x)).run Try.prog w = .ok (.bool true) w := fun (w : World) => by
      rw [run_neq_page w _ x (Pl.super_length _ _) hx, decide_eq_false hr]; rfl
    clear e4 e6 hr hq
    generalize Pl.superP (Pg.getN x 4 2) (Pg.getN x 6 2) = z at *
    generalize Pl.dataN (Pg.getN x 6 2) = d at *
    generalize Pg.getN x 4 2 = p at *
    generalize Pg.getN x 6 2 = i at *
    unfold pageV
    go_enter Try.func4, Try.ntmps4
    go_wp2_with (first
      | (go_at_call 6; refine (awake_any _).mono ?_; rintro e w1 ⟨rfl, hb1⟩; have S := Lib.hid (HX.out w1 (by simpa using hb1)); clear hb1 HX)
      | (with_reducible refine wpList_load_page S.out.page rfl (.tmp 1) rfl rfl ?_)
      | (go_at_call 18; refine (HR.out _).mono ?_; rintro e w2 ⟨rfl, hb⟩; replace S := Lib.hid (S.out.call hb); clear hb HR)
      | ((with_reducible refine wpList_store_newrow planT (vs := planL 0 0) rfl (planL_one _ _) rfl (.tmp 3) (.tmp 14) rfl rfl ?_ ?_ ?_); (exact rfl); (exact rfl); intro W3 hP hb3 hz3; have R := Lib.hid hP; replace S := Lib.hid (S.out.call hb3); clear hP hb3 hz3; generalize w2.heap.size = D at R ⊢; obtain ⟨q4, q5, q6, q7⟩ := HC.out _ S.out.page)
      | ((with_reducible refine wpList_loadg_row planT R.out rfl (.tmp 3) rfl rfl ?_ ?_); (exact rfl))
      | (go_at_call 8; refine (HN.out _).mono ?_; rintro e w4 ⟨rfl, hb⟩; replace S := Lib.hid (S.out.call hb); clear hb HN R q4 q5 q6 q7)
      | ((with_reducible refine wpList_store_newrow rplanT (vs := rplanL p i d) rfl (rplanL_one _ _ _) rfl (.tmp 5) (.tmp 43) rfl rfl ?_ ?_ ?_); (exact rfl); (exact rfl); intro W5 hP hb5 hz5; have R := Lib.hid hP; replace S := Lib.hid (S.out.call hb5); clear hP hb5 hz5; generalize w4.heap.size = D2 at R ⊢))
    refine wp_region_class (C := fun w' => Below W5.heap.size W5 w') (by kernel_rfl) ⟨rfl, rfl, rfl, Nat.le_refl _, fun _ _ => rfl⟩ ?_
    refine wpQuiet_take (.bool true) (by kernel_rfl) (fun w' hw' => ?_) ?_
    · go_simp
    (try simp only [Act.put, List.setIfInBounds_toArray, List.set_cons_zero, List.set_cons_succ])
    refine wpQuiet_take (.bool false) (by kernel_rfl) (fun w' hw' => ?_) ?_
    · go_simp
    (try simp only [Act.put, List.setIfInBounds_toArray, List.set_cons_zero, List.set_cons_succ])
    refine wpQuiet_take (.bool false) (by kernel_rfl) (fun w' hw' => ?_) ?_
    · go_simp
    (try simp only [Act.put, List.setIfInBounds_toArray, List.set_cons_zero, List.set_cons_succ])
    refine wpQuiet_row rplanT (vs := rplanL p i d) rfl (.tmp 5) rfl rfl (by kernel_rfl) (fun w' hw' => RowAt.step R.out hw') ?_
    (try simp only [Act.put, List.setIfInBounds_toArray, List.set_cons_zero, List.set_cons_succ])
    refine wpQuiet_call 19 #[rplanV p i d] (pageV z) (by kernel_rfl) (fun w' => by go_simp; rfl) (fun w' hw' => (HS.out w').mono fun e w'' h => ⟨h.1, hw'.trans (h.2.mono hw'.size)⟩) ?_
    (try simp only [Act.put, List.setIfInBounds_toArray, List.set_cons_zero, List.set_cons_succ])
    refine wpQuiet_page (.tmp 1) rfl rfl (by kernel_rfl) (fun w' hw' => (S.out.page).step hw') ?_
    (try simp only [Act.put, List.setIfInBounds_toArray, List.set_cons_zero, List.set_cons_succ])
    refine wpQuiet_take (.bool true) (by kernel_rfl) (fun w' hw' => ?_) ?_
    · go_simp
    (try simp only [Act.put, List.setIfInBounds_toArray, List.set_cons_zero, List.set_cons_succ])
    refine wpQuiet_take (.bool true) (by kernel_rfl) (fun w' hw' => ?_) ?_
    · go_simp
    (try simp only [Act.put, List.setIfInBounds_toArray, List.set_cons_zero, List.set_cons_succ])
    refine wpQuiet_take (.bool true) (by kernel_rfl) (fun w' hw' => ?_) ?_
    · go_simp
    (try simp only [Act.put, List.setIfInBounds_toArray, List.set_cons_zero, List.set_cons_succ])
    refine wpQuiet_nil ?_
    intro w9 hw9
    have hs := S.out.below
    go_wp2
    go_ret
    exact ⟨rfl, hs.trans (hw9.mono hs.size)⟩
theorem walk (x : List UInt8) (w : World) (hx : x.length = 64) :
    Calls Try.prog 4 #[pageV x] w fun e w' => e = .returned (.bool true) ∧ Below w.heap.size w w' := by
  cases hr : Pl.readB x with
  | true => exact walk_yes x w hx hr
  | false => exact walk_no x w hx hr
set_option maxRecDepth 100000 in
theorem lifted (os : Os) (started : os.Started) (H : Type) (enc : TypeId × Value → H) :
    ReturnsInHanded {} Try.checked os 4 .any (Rows.planReadsSpec.pre6 enc Try.prog Try.f4 Rows.planReadsRow.domain false) (Rows.planReadsSpec.post enc Try.prog Try.f4 false true false false) := by
  refine returnsInHanded_of_change (C := Try.checked) own started (by kernel_rfl) Try.func4
    (ChangeSpec.witness6 (enc := enc) (C := Try.checked) false ⟨#[], #[.agg zeroCells], []⟩ 8 (by kernel_rfl) (by kernel_rfl) (by kernel_rfl) (by kernel_rfl)) ?_
  intro W base args ds gs before hval0 hW hcnd _
  have hval : ∀ (j : Nat) t v, Try.f4.params[j]? = some t → args[j]? = some v → Value.okWide Try.prog W .any base t v := hval0
  have hW' := hW
  obtain ⟨p, q, hA0, hV, rfl, hfz, hnd⟩ := hW
  have hA : DataW.TrodAll enc Try.prog W 0 (fun _ => true) true Try.f4.params.toList args.toList ds p := hA0
  rw [Try.params4] at hA hval
  obtain ⟨v0, vs0, d0, ds0, p0, q0, hargs, rfl, rfl, h0, r0⟩ := trodAll_cons hA
  obtain ⟨rfl, rfl, rfl⟩ := trodAll_nil r0
  obtain rfl : args = #[v0] := by cases args; simp_all
  obtain ⟨rfl, rfl⟩ := trodVars_none hV
  have k0 := h0
  have lt0 : ∀ x ∈ p0, x.block < W.heap.size := by obtain ⟨m, hm⟩ := k0; exact DataW.trod_lt m _ _ _ hm
  obtain ⟨x0, hx0, rfl⟩ := open_page (hval 0 33 v0 rfl rfl) h0
  clear hA0 hval0
  refine (walk x0 W hx0).mono fun e W' ⟨he, bel⟩ => ?_
  subst he
  exact ⟨_, rfl, _, _, _, [], _, [], hW', trodAll_mk1 (shut_bool Try.underlying4 _), (trodAll_cons_mk (Below.trod laidOut (by kernel_rfl) (of_decide_eq_true (by kernel_rfl)) k0 bel lt0) trodAll_mk0), rfl, bel.frame _, fun h => by cases h⟩
theorem over : Rows.planReadsRow.holds Try.pinned (OpenSpec.ofChange Rows.planReadsSpec) :=
  OpenClaim.holds_of_wide 4 Try.f4 rfl rfl rfl rfl rfl rfl rfl ⟨rfl, rfl, rfl, rfl, rfl⟩ rfl rfl rfl rfl rfl (by kernel_rfl) Try.func4 (by kernel_rfl)
    (of_decide_eq_true (by kernel_rfl)) (by unfold Func.isWrapper; first | (rw [if_pos (by decide +kernel)]; kernel_rfl) | (rw [if_neg (by decide +kernel)]; exact ⟨rfl, rfl⟩))
    (fun os started H enc _ => lifted os started H enc)

/-- THE STATEMENT -/
theorem proved : Rows.PlanReadsSaid := over
#print axioms proved
end Go.Proofs.Yteajegplbmadiaa.planReads
