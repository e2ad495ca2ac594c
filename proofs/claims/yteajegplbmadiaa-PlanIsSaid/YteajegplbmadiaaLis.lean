/-
  Proved: PlanIs returns true for all counts of pages and inodes: there is the plan that the document says, or none, with its super page.
  Conditions: none beside the statement's own.
-/
import Derived.Test.YteajegplbmadiaaLread
import Derived.Test.YteajegplbmadiaaLref
import Derived.Test.YteajegplbmadiaaLawake
namespace Go.Proofs.Yteajegplbmadiaa.planIs
open Go.ChangeShapes Go.WideShapes Go.ChangeAt Go.RowKit

/-- what stands in memory: New's plan, the raw one, the super page -/
structure PiS (w0 : World) (C R X : Nat) (q j p i : Int) (z : List UInt8) (W : World) : Prop where
  own : RowAt W C (planL q j)
  raw : RowAt W R (planL p i)
  page : PageAt W X z
  below : Below w0.heap.size w0 W
theorem PiS.call {w0 : World} {C R X : Nat} {q j p i : Int} {z : List UInt8} {W W' : World} (k : PiS w0 C R X q j p i z W) (hb : Below W.heap.size W W') : PiS w0 C R X q j p i z W' :=
  ⟨RowAt.step k.own hb, RowAt.step k.raw hb, k.page.step hb, k.below.trans (hb.mono k.below.size)⟩

set_option maxRecDepth 100000 in
set_option maxHeartbeats 4000000 in
theorem walk_no (p i : Int) (w : World) (h : Pl.rightB p i = false) :
    Calls Try.prog 3 #[.int .i64 p, .int .i64 i] w fun e w' => e = .returned (.bool true) ∧ Below w.heap.size w w' := by
  have HN := Lib.hid (fun w => plNew_no p i w h)
  have HR := Lib.hid (fun w => refNew_no p i w h)
  have HU := Lib.hid (fun w => super_no p i w h)
  have LZ := Lib.hid zeros_length
  have M0 := Lib.hid (fun w => plJournal_any p i w)
  have M1 := Lib.hid (fun w => plInodeBits_any p i w)
  have M2 := Lib.hid (fun w => plDataBits_any p i w)
  have M3 := Lib.hid (fun w => plTable_any p i w)
  rw [h] at M0 M1 M2 M3
  simp only [Bool.false_eq_true, if_false] at M0 M1 M2 M3
  have M4 := Lib.hid (fun w => plData_no p i w h)
  have M5 := Lib.hid (fun w => plRoom_no p i w h)
  have M6 := Lib.hid (fun w => bit_none p i 50 w h)
  have M7 := Lib.hid (fun w => at_none p i w h)
  have E1 : ∀ (a b : Operand) (w : World), (eqGuard .eql 24 a b (.agg (planL 0 0).toArray) (.agg #[.int .i64 0, .int .i64 0])).run Try.prog w = .ok () w := fun a b w => run_eqGuard_plan w a b 0 0 0 0
  have E2 : ∀ (w : World), (binOp .eql 24 (.agg (planL 0 0).toArray) (.agg #[.int .i64 0, .int .i64 0])).run Try.prog w = .ok (.bool true) w := fun w => run_eql_plan w 0 0 0 0
  have E3 : ∀ (x y : Operand) (w : World), (eqGuard .eql 33 x y (pageV zeros) (.agg zeroCells)).run Try.prog w = .ok () w := fun x y w => run_eqGuard_page w x y zeros zeros
  have E4 : ∀ (w : World), (binOp .eql 33 (pageV zeros) (.agg zeroCells)).run Try.prog w = .ok (.bool true) w := fun w => run_eql_same w zeros zeros_length
  rw [zeroCells_def] at E3 E4
  clear h
  generalize zeros = z at HU LZ E3 E4
  go_enter Try.func3, Try.ntmps3
  go_wp2_with (first
    | (go_at_call 6; refine (awake_any _).mono ?_; rintro e w1 ⟨rfl, hb1⟩; have B := Lib.hid hb1; clear hb1)
    | (go_at_call 7; refine (HN.out _).mono ?_; rintro e w2 ⟨rfl, hb⟩; replace B := Lib.hid (B.out.trans (hb.mono B.out.size)); clear hb HN)
    | ((with_reducible refine wpList_store_newrow planT (vs := planL 0 0) rfl (planL_one _ _) rfl (.tmp 5) (.tmp 20) rfl rfl ?_ ?_ ?_); (exact rfl); (exact rfl); intro W3 hP hb hz3; have P3 := Lib.hid hP; replace B := Lib.hid (B.out.trans (hb.mono B.out.size)); clear hb hP hz3; generalize w2.heap.size = C at P3 ⊢)
    | (go_at_call 8; refine (HR.out _).mono ?_; rintro e w4 ⟨rfl, hb⟩; replace P3 := Lib.hid (RowAt.step P3.out hb); replace B := Lib.hid (B.out.trans (hb.mono B.out.size)); clear hb HR)
    | ((with_reducible refine wpList_store_newrow rplanT (vs := rplanL 0 0 0) rfl (rplanL_one _ _ _) rfl (.tmp 7) (.tmp 26) rfl rfl ?_ ?_ ?_); (exact rfl); (exact rfl); intro W5 hP hb hz5; replace P3 := Lib.hid (RowAt.step P3.out hb); replace B := Lib.hid (B.out.trans (hb.mono B.out.size)); clear hb hP hz5)
    | ((with_reducible refine wpList_store_newrow planT (vs := planL p i) rfl (planL_one _ _) rfl (.tmp 9) (.tmp 30) rfl rfl ?_ ?_ ?_); (exact rfl); (exact rfl); intro W6 hP hb hz6; have R6 := Lib.hid hP; replace P3 := Lib.hid (RowAt.step P3.out hb); replace B := Lib.hid (B.out.trans (hb.mono B.out.size)); clear hb hP hz6; generalize W5.heap.size = R at R6 ⊢)
    | (with_reducible refine wpList_load_row planT R6.out rfl rfl (.tmp 9) rfl rfl ?_)
    | (go_at_call 9; refine (HU.out _).mono ?_; rintro e w7 ⟨rfl, hb⟩; replace R6 := Lib.hid (RowAt.step R6.out hb); replace P3 := Lib.hid (RowAt.step P3.out hb); replace B := Lib.hid (B.out.trans (hb.mono B.out.size)); clear hb HU)
    | ((with_reducible refine wpList_store_new rfl (.tmp 10) (.tmp 34) rfl rfl ?_ ?_ LZ.out ?_); (exact rfl); (exact rfl); intro W8 hP hb hz8; have S : Hid (PiS w C R w7.heap.size 0 0 p i z W8) := Lib.hid ⟨RowAt.step P3.out hb, RowAt.step R6.out hb, hP, B.out.trans (hb.mono B.out.size)⟩; clear hb hP hz8 B P3 R6; generalize w7.heap.size = X at S ⊢)
    | (with_reducible refine wpList_load_row planT S.out.own rfl rfl (.tmp 5) rfl rfl ?_)
    | ((with_reducible refine wpList_load_guarded S.out.page (.tmp 10) rfl rfl ?_ ?_); (exact rfl))
    | ((with_reducible refine wpList_loadg_row planT S.out.raw rfl (.tmp 9) rfl rfl ?_ ?_); (exact rfl))
    | (go_at_call 10; refine (M0.out _).mono ?_; rintro e w' ⟨rfl, hb⟩; replace S := Lib.hid (S.out.call hb); clear hb)
    | (go_at_call 11; refine (M1.out _).mono ?_; rintro e w' ⟨rfl, hb⟩; replace S := Lib.hid (S.out.call hb); clear hb)
    | (go_at_call 12; refine (M2.out _).mono ?_; rintro e w' ⟨rfl, hb⟩; replace S := Lib.hid (S.out.call hb); clear hb)
    | (go_at_call 13; refine (M3.out _).mono ?_; rintro e w' ⟨rfl, hb⟩; replace S := Lib.hid (S.out.call hb); clear hb)
    | (go_at_call 14; refine (M4.out _).mono ?_; rintro e w' ⟨rfl, hb⟩; replace S := Lib.hid (S.out.call hb); clear hb)
    | (go_at_call 15; refine (M5.out _).mono ?_; rintro e w' ⟨rfl, hb⟩; replace S := Lib.hid (S.out.call hb); clear hb)
    | (go_at_call 16; refine (M6.out _).mono ?_; rintro e w' ⟨rfl, hb⟩; replace S := Lib.hid (S.out.call hb); clear hb)
    | (go_at_call 17; refine (M7.out _).mono ?_; rintro e w' ⟨rfl, hb⟩; replace S := Lib.hid (S.out.call hb); clear hb))
  have hs := S.out.below
  go_ret
  exact ⟨rfl, hs⟩

set_option maxRecDepth 100000 in
set_option maxHeartbeats 4000000 in
theorem walk_yes (p i : Int) (w : World) (h : Pl.rightB p i = true) :
    Calls Try.prog 3 #[.int .i64 p, .int .i64 i] w fun e w' => e = .returned (.bool true) ∧ Below w.heap.size w w' := by
  have HN := Lib.hid (fun w => plNew_yes p i w h)
  have HR := Lib.hid (fun w => refNew_yes p i w h)
  have HU := Lib.hid (fun w => super_yes p i w h)
  have HV := Lib.hid (fun w => refSuper_any p i (Pl.dataN i) w)
  have HG : Hid (∀ w, Calls Try.prog 18 #[pageV (Pl.superP p i)] w fun e w' => e = .returned (.tuple #[planV p i, .int .i64 0]) ∧ Below w.heap.size w w') := Lib.hid (fun w => by
    obtain ⟨k1, k2, k3⟩ := Pl.read_super p i h
    have := read_any (Pl.superP p i) w (Pl.super_length p i)
    rw [if_pos k1, k2, k3] at this
    exact this)
  have LZ := Lib.hid (Pl.super_length p i)
  have M0 := Lib.hid (fun w => plJournal_any p i w)
  have M1 := Lib.hid (fun w => plInodeBits_any p i w)
  have M2 := Lib.hid (fun w => plDataBits_any p i w)
  have M3 := Lib.hid (fun w => plTable_any p i w)
  rw [h] at M0 M1 M2 M3
  simp only [if_true] at M0 M1 M2 M3
  have M4 := Lib.hid (fun w => plData_yes p i w h)
  have M5 := Lib.hid (fun w => plRoom_yes p i w h)
  have E1 : ∀ (a b : Operand) (w : World), (eqGuard .eql 24 a b (.agg (planL p i).toArray) (.agg (planL p i).toArray)).run Try.prog w = .ok () w := fun a b w => run_eqGuard_plan w a b p i p i
  have E2 : ∀ (w : World), (binOp .eql 24 (.agg (planL p i).toArray) (.agg (planL p i).toArray)).run Try.prog w = .ok (.bool true) w := fun w => by
    have := run_eql_plan w p i p i
    rw [decide_eq_true ⟨rfl, rfl⟩] at this
    exact this
  have E3 := fun (x y : Operand) (w : World) => run_eqGuard_page w x y (Pl.superP p i) (Pl.superP p i)
  have E4 := fun (w : World) => run_eql_same w (Pl.superP p i) (Pl.super_length p i)
  obtain ⟨r1, r2, r3, r4⟩ := Pl.right_yes h
  obtain ⟨r5, r6⟩ := Pl.data_bd r1 r2
  clear h
  generalize Pl.superP p i = z at *
  generalize Pl.dataN i = d at *
  go_enter Try.func3, Try.ntmps3
  go_wp2_with (first
    | (go_at_call 6; refine (awake_any _).mono ?_; rintro e w1 ⟨rfl, hb1⟩; have B := Lib.hid hb1; clear hb1)
    | (go_at_call 7; refine (HN.out _).mono ?_; rintro e w2 ⟨rfl, hb⟩; replace B := Lib.hid (B.out.trans (hb.mono B.out.size)); clear hb HN)
    | ((with_reducible refine wpList_store_newrow planT (vs := planL p i) rfl (planL_one _ _) rfl (.tmp 5) (.tmp 20) rfl rfl ?_ ?_ ?_); (exact rfl); (exact rfl); intro W3 hP hb hz3; have P3 := Lib.hid hP; replace B := Lib.hid (B.out.trans (hb.mono B.out.size)); clear hb hP hz3; generalize w2.heap.size = C at P3 ⊢)
    | (go_at_call 8; refine (HR.out _).mono ?_; rintro e w4 ⟨rfl, hb⟩; replace P3 := Lib.hid (RowAt.step P3.out hb); replace B := Lib.hid (B.out.trans (hb.mono B.out.size)); clear hb HR)
    | ((with_reducible refine wpList_store_newrow rplanT (vs := rplanL p i d) rfl (rplanL_one _ _ _) rfl (.tmp 7) (.tmp 26) rfl rfl ?_ ?_ ?_); (exact rfl); (exact rfl); intro W5 hP hb hz5; have F := Lib.hid hP; replace P3 := Lib.hid (RowAt.step P3.out hb); replace B := Lib.hid (B.out.trans (hb.mono B.out.size)); clear hb hP hz5; generalize w4.heap.size = N at F ⊢)
    | ((with_reducible refine wpList_store_newrow planT (vs := planL p i) rfl (planL_one _ _) rfl (.tmp 9) (.tmp 30) rfl rfl ?_ ?_ ?_); (exact rfl); (exact rfl); intro W6 hP hb hz6; have R6 := Lib.hid hP; replace F := Lib.hid (RowAt.step F.out hb); replace P3 := Lib.hid (RowAt.step P3.out hb); replace B := Lib.hid (B.out.trans (hb.mono B.out.size)); clear hb hP hz6; generalize W5.heap.size = R at R6 ⊢)
    | (with_reducible refine wpList_load_row planT R6.out rfl rfl (.tmp 9) rfl rfl ?_)
    | (go_at_call 9; refine (HU.out _).mono ?_; rintro e w7 ⟨rfl, hb⟩; replace R6 := Lib.hid (RowAt.step R6.out hb); replace F := Lib.hid (RowAt.step F.out hb); replace P3 := Lib.hid (RowAt.step P3.out hb); replace B := Lib.hid (B.out.trans (hb.mono B.out.size)); clear hb HU)
    | ((with_reducible refine wpList_store_new rfl (.tmp 10) (.tmp 34) rfl rfl ?_ ?_ LZ.out ?_); (exact rfl); (exact rfl); intro W8 hP hb hz8; have S : Hid (PiS w C R w7.heap.size p i p i z W8) := Lib.hid ⟨RowAt.step P3.out hb, RowAt.step R6.out hb, hP, B.out.trans (hb.mono B.out.size)⟩; replace F := Lib.hid (RowAt.step F.out hb); clear hb hP hz8 B P3 R6; generalize w7.heap.size = X at S ⊢)
    | (with_reducible refine wpList_load_page S.out.page rfl (.tmp 10) rfl rfl ?_)
    | (go_at_call 18; refine (HG.out _).mono ?_; rintro e w9 ⟨rfl, hb⟩; replace S := Lib.hid (S.out.call hb); replace F := Lib.hid (RowAt.step F.out hb); clear hb HG)
    | ((with_reducible refine wpList_store_newrow planT (vs := planL p i) rfl (planL_one _ _) rfl (.tmp 12) (.tmp 97) rfl rfl ?_ ?_ ?_); (exact rfl); (exact rfl); intro W10 hP hb hz; have G := Lib.hid hP; replace S := Lib.hid (S.out.call hb); replace F := Lib.hid (RowAt.step F.out hb); clear hb hP hz; generalize w9.heap.size = Y at G ⊢))
  refine wp_region_class (C := fun w' => Below W10.heap.size W10 w') (by kernel_rfl) ⟨rfl, rfl, rfl, Nat.le_refl _, fun _ _ => rfl⟩ ?_
  refine wpQuiet_take (.int .i64 0) (by kernel_rfl) (fun w' hw' => ?_) ?_
  · go_simp
  (try simp only [Act.put, List.setIfInBounds_toArray, List.set_cons_zero, List.set_cons_succ])
  refine wpQuiet_take (.bool true) (by kernel_rfl) (fun w' hw' => ?_) ?_
  · go_simp
  (try simp only [Act.put, List.setIfInBounds_toArray, List.set_cons_zero, List.set_cons_succ])
  refine wpQuiet_take (.bool true) (by kernel_rfl) (fun w' hw' => ?_) ?_
  · go_simp
  (try simp only [Act.put, List.setIfInBounds_toArray, List.set_cons_zero, List.set_cons_succ])
  refine wpQuiet_row planT (vs := planL p i) rfl (.tmp 5) rfl rfl (by kernel_rfl) (fun w' hw' => RowAt.step S.out.own hw') ?_
  (try simp only [Act.put, List.setIfInBounds_toArray, List.set_cons_zero, List.set_cons_succ])
  refine wpQuiet_row planT (vs := planL p i) rfl (.tmp 9) rfl rfl (by kernel_rfl) (fun w' hw' => RowAt.step S.out.raw hw') ?_
  (try simp only [Act.put, List.setIfInBounds_toArray, List.set_cons_zero, List.set_cons_succ])
  refine wpQuiet_take (.bool true) (by kernel_rfl) (fun w' hw' => ?_) ?_
  · go_simp
  (try simp only [Act.put, List.setIfInBounds_toArray, List.set_cons_zero, List.set_cons_succ])
  refine wpQuiet_take (.bool true) (by kernel_rfl) (fun w' hw' => ?_) ?_
  · go_simp
  (try simp only [Act.put, List.setIfInBounds_toArray, List.set_cons_zero, List.set_cons_succ])
  refine wpQuiet_take (.bool true) (by kernel_rfl) (fun w' hw' => ?_) ?_
  · go_simp
  (try simp only [Act.put, List.setIfInBounds_toArray, List.set_cons_zero, List.set_cons_succ])
  refine wpQuiet_take (.int .i64 0) (by kernel_rfl) (fun w' hw' => ?_) ?_
  · go_simp
  (try simp only [Act.put, List.setIfInBounds_toArray, List.set_cons_zero, List.set_cons_succ])
  refine wpQuiet_take (.bool true) (by kernel_rfl) (fun w' hw' => ?_) ?_
  · go_simp
  (try simp only [Act.put, List.setIfInBounds_toArray, List.set_cons_zero, List.set_cons_succ])
  refine wpQuiet_take (.bool true) (by kernel_rfl) (fun w' hw' => ?_) ?_
  · go_simp
  (try simp only [Act.put, List.setIfInBounds_toArray, List.set_cons_zero, List.set_cons_succ])
  refine wpQuiet_take (.bool true) (by kernel_rfl) (fun w' hw' => ?_) ?_
  · go_simp
  (try simp only [Act.put, List.setIfInBounds_toArray, List.set_cons_zero, List.set_cons_succ])
  refine wpQuiet_page (.tmp 10) rfl rfl (by kernel_rfl) (fun w' hw' => PageAt.step S.out.page hw') ?_
  (try simp only [Act.put, List.setIfInBounds_toArray, List.set_cons_zero, List.set_cons_succ])
  refine wpQuiet_row rplanT (vs := rplanL p i d) rfl (.tmp 7) rfl rfl (by kernel_rfl) (fun w' hw' => RowAt.step F.out hw') ?_
  (try simp only [Act.put, List.setIfInBounds_toArray, List.set_cons_zero, List.set_cons_succ])
  refine wpQuiet_call 19 #[rplanV p i d] (pageV z) (by kernel_rfl) (fun w' => by go_simp; rfl) (fun w' hw' => (HV.out w').mono fun e w'' h => ⟨h.1, hw'.trans (h.2.mono hw'.size)⟩) ?_
  (try simp only [Act.put, List.setIfInBounds_toArray, List.set_cons_zero, List.set_cons_succ])
  refine wpQuiet_take (.bool true) (by kernel_rfl) (fun w' hw' => ?_) ?_
  · go_simp
  (try simp only [Act.put, List.setIfInBounds_toArray, List.set_cons_zero, List.set_cons_succ])
  refine wpQuiet_take (.bool true) (by kernel_rfl) (fun w' hw' => ?_) ?_
  · go_simp
  (try simp only [Act.put, List.setIfInBounds_toArray, List.set_cons_zero, List.set_cons_succ])
  refine wpQuiet_take (.bool true) (by kernel_rfl) (fun w' hw' => ?_) ?_
  · go_simp
  (try simp only [Act.put, List.setIfInBounds_toArray, List.set_cons_zero, List.set_cons_succ])
  refine wpQuiet_take (.int .i64 0) (by kernel_rfl) (fun w' hw' => ?_) ?_
  · go_simp
  (try simp only [Act.put, List.setIfInBounds_toArray, List.set_cons_zero, List.set_cons_succ])
  refine wpQuiet_take (.bool true) (by kernel_rfl) (fun w' hw' => ?_) ?_
  · go_simp
  (try simp only [Act.put, List.setIfInBounds_toArray, List.set_cons_zero, List.set_cons_succ])
  refine wpQuiet_take (.bool true) (by kernel_rfl) (fun w' hw' => ?_) ?_
  · go_simp
  (try simp only [Act.put, List.setIfInBounds_toArray, List.set_cons_zero, List.set_cons_succ])
  refine wpQuiet_take (.bool true) (by kernel_rfl) (fun w' hw' => ?_) ?_
  · go_simp
  (try simp only [Act.put, List.setIfInBounds_toArray, List.set_cons_zero, List.set_cons_succ])
  refine wpQuiet_row planT (vs := planL p i) rfl (.tmp 12) rfl rfl (by kernel_rfl) (fun w' hw' => RowAt.step G.out hw') ?_
  (try simp only [Act.put, List.setIfInBounds_toArray, List.set_cons_zero, List.set_cons_succ])
  refine wpQuiet_row planT (vs := planL p i) rfl (.tmp 5) rfl rfl (by kernel_rfl) (fun w' hw' => RowAt.step S.out.own hw') ?_
  (try simp only [Act.put, List.setIfInBounds_toArray, List.set_cons_zero, List.set_cons_succ])
  refine wpQuiet_take (.bool true) (by kernel_rfl) (fun w' hw' => ?_) ?_
  · go_simp
  (try simp only [Act.put, List.setIfInBounds_toArray, List.set_cons_zero, List.set_cons_succ])
  refine wpQuiet_take (.bool true) (by kernel_rfl) (fun w' hw' => ?_) ?_
  · go_simp
  (try simp only [Act.put, List.setIfInBounds_toArray, List.set_cons_zero, List.set_cons_succ])
  refine wpQuiet_take (.bool true) (by kernel_rfl) (fun w' hw' => ?_) ?_
  · go_simp
  (try simp only [Act.put, List.setIfInBounds_toArray, List.set_cons_zero, List.set_cons_succ])
  refine wpQuiet_row planT (vs := planL p i) rfl (.tmp 5) rfl rfl (by kernel_rfl) (fun w' hw' => RowAt.step S.out.own hw') ?_
  (try simp only [Act.put, List.setIfInBounds_toArray, List.set_cons_zero, List.set_cons_succ])
  refine wpQuiet_call 10 #[planV p i] (.int .i64 1) (by kernel_rfl) (fun w' => by go_simp; rfl) (fun w' hw' => (M0.out w').mono fun e w'' h => ⟨h.1, hw'.trans (h.2.mono hw'.size)⟩) ?_
  (try simp only [Act.put, List.setIfInBounds_toArray, List.set_cons_zero, List.set_cons_succ])
  refine wpQuiet_take (.bool true) (by kernel_rfl) (fun w' hw' => ?_) ?_
  · go_simp
  (try simp only [Act.put, List.setIfInBounds_toArray, List.set_cons_zero, List.set_cons_succ])
  refine wpQuiet_take (.bool true) (by kernel_rfl) (fun w' hw' => ?_) ?_
  · go_simp
  (try simp only [Act.put, List.setIfInBounds_toArray, List.set_cons_zero, List.set_cons_succ])
  refine wpQuiet_take (.bool true) (by kernel_rfl) (fun w' hw' => ?_) ?_
  · go_simp
  (try simp only [Act.put, List.setIfInBounds_toArray, List.set_cons_zero, List.set_cons_succ])
  refine wpQuiet_row planT (vs := planL p i) rfl (.tmp 5) rfl rfl (by kernel_rfl) (fun w' hw' => RowAt.step S.out.own hw') ?_
  (try simp only [Act.put, List.setIfInBounds_toArray, List.set_cons_zero, List.set_cons_succ])
  refine wpQuiet_call 11 #[planV p i] (.int .i64 41) (by kernel_rfl) (fun w' => by go_simp; rfl) (fun w' hw' => (M1.out w').mono fun e w'' h => ⟨h.1, hw'.trans (h.2.mono hw'.size)⟩) ?_
  (try simp only [Act.put, List.setIfInBounds_toArray, List.set_cons_zero, List.set_cons_succ])
  refine wpQuiet_take (.bool true) (by kernel_rfl) (fun w' hw' => ?_) ?_
  · go_simp
  (try simp only [Act.put, List.setIfInBounds_toArray, List.set_cons_zero, List.set_cons_succ])
  refine wpQuiet_take (.bool true) (by kernel_rfl) (fun w' hw' => ?_) ?_
  · go_simp
  (try simp only [Act.put, List.setIfInBounds_toArray, List.set_cons_zero, List.set_cons_succ])
  refine wpQuiet_take (.bool true) (by kernel_rfl) (fun w' hw' => ?_) ?_
  · go_simp
  (try simp only [Act.put, List.setIfInBounds_toArray, List.set_cons_zero, List.set_cons_succ])
  refine wpQuiet_row planT (vs := planL p i) rfl (.tmp 5) rfl rfl (by kernel_rfl) (fun w' hw' => RowAt.step S.out.own hw') ?_
  (try simp only [Act.put, List.setIfInBounds_toArray, List.set_cons_zero, List.set_cons_succ])
  refine wpQuiet_call 12 #[planV p i] (.int .i64 42) (by kernel_rfl) (fun w' => by go_simp; rfl) (fun w' hw' => (M2.out w').mono fun e w'' h => ⟨h.1, hw'.trans (h.2.mono hw'.size)⟩) ?_
  (try simp only [Act.put, List.setIfInBounds_toArray, List.set_cons_zero, List.set_cons_succ])
  refine wpQuiet_take (.bool true) (by kernel_rfl) (fun w' hw' => ?_) ?_
  · go_simp
  (try simp only [Act.put, List.setIfInBounds_toArray, List.set_cons_zero, List.set_cons_succ])
  refine wpQuiet_take (.bool true) (by kernel_rfl) (fun w' hw' => ?_) ?_
  · go_simp
  (try simp only [Act.put, List.setIfInBounds_toArray, List.set_cons_zero, List.set_cons_succ])
  refine wpQuiet_take (.bool true) (by kernel_rfl) (fun w' hw' => ?_) ?_
  · go_simp
  (try simp only [Act.put, List.setIfInBounds_toArray, List.set_cons_zero, List.set_cons_succ])
  refine wpQuiet_row planT (vs := planL p i) rfl (.tmp 5) rfl rfl (by kernel_rfl) (fun w' hw' => RowAt.step S.out.own hw') ?_
  (try simp only [Act.put, List.setIfInBounds_toArray, List.set_cons_zero, List.set_cons_succ])
  refine wpQuiet_call 13 #[planV p i] (.int .i64 43) (by kernel_rfl) (fun w' => by go_simp; rfl) (fun w' hw' => (M3.out w').mono fun e w'' h => ⟨h.1, hw'.trans (h.2.mono hw'.size)⟩) ?_
  (try simp only [Act.put, List.setIfInBounds_toArray, List.set_cons_zero, List.set_cons_succ])
  refine wpQuiet_take (.bool true) (by kernel_rfl) (fun w' hw' => ?_) ?_
  · go_simp
  (try simp only [Act.put, List.setIfInBounds_toArray, List.set_cons_zero, List.set_cons_succ])
  refine wpQuiet_take (.bool true) (by kernel_rfl) (fun w' hw' => ?_) ?_
  · go_simp
  (try simp only [Act.put, List.setIfInBounds_toArray, List.set_cons_zero, List.set_cons_succ])
  refine wpQuiet_take (.bool true) (by kernel_rfl) (fun w' hw' => ?_) ?_
  · go_simp
  (try simp only [Act.put, List.setIfInBounds_toArray, List.set_cons_zero, List.set_cons_succ])
  refine wpQuiet_row planT (vs := planL p i) rfl (.tmp 5) rfl rfl (by kernel_rfl) (fun w' hw' => RowAt.step S.out.own hw') ?_
  (try simp only [Act.put, List.setIfInBounds_toArray, List.set_cons_zero, List.set_cons_succ])
  refine wpQuiet_call 14 #[planV p i] (.int .i64 d) (by kernel_rfl) (fun w' => by go_simp; rfl) (fun w' hw' => (M4.out w').mono fun e w'' h => ⟨h.1, hw'.trans (h.2.mono hw'.size)⟩) ?_
  (try simp only [Act.put, List.setIfInBounds_toArray, List.set_cons_zero, List.set_cons_succ])
  refine wpQuiet_take (.pointer (some ⟨N, 2, none⟩)) (by kernel_rfl) (fun w' hw' => ?_) ?_
  · go_simp
  (try simp only [Act.put, List.setIfInBounds_toArray, List.set_cons_zero, List.set_cons_succ])
  refine wpQuiet_take (.int .i64 d) (by kernel_rfl) (fun w' hw' => ?_) ?_
  · have q := RowAt.cell (RowAt.step F.out hw') 2 _ rfl; go_simp
  (try simp only [Act.put, List.setIfInBounds_toArray, List.set_cons_zero, List.set_cons_succ])
  refine wpQuiet_take (.bool true) (by kernel_rfl) (fun w' hw' => ?_) ?_
  · go_simp
  (try simp only [Act.put, List.setIfInBounds_toArray, List.set_cons_zero, List.set_cons_succ])
  refine wpQuiet_take (.bool true) (by kernel_rfl) (fun w' hw' => ?_) ?_
  · go_simp
  (try simp only [Act.put, List.setIfInBounds_toArray, List.set_cons_zero, List.set_cons_succ])
  refine wpQuiet_take (.bool true) (by kernel_rfl) (fun w' hw' => ?_) ?_
  · go_simp
  (try simp only [Act.put, List.setIfInBounds_toArray, List.set_cons_zero, List.set_cons_succ])
  refine wpQuiet_row planT (vs := planL p i) rfl (.tmp 5) rfl rfl (by kernel_rfl) (fun w' hw' => RowAt.step S.out.own hw') ?_
  (try simp only [Act.put, List.setIfInBounds_toArray, List.set_cons_zero, List.set_cons_succ])
  refine wpQuiet_call 15 #[planV p i] (.int .i64 (p - d)) (by kernel_rfl) (fun w' => by go_simp; rfl) (fun w' hw' => (M5.out w').mono fun e w'' h => ⟨h.1, hw'.trans (h.2.mono hw'.size)⟩) ?_
  (try simp only [Act.put, List.setIfInBounds_toArray, List.set_cons_zero, List.set_cons_succ])
  refine wpQuiet_take (.int .i64 p) (by kernel_rfl) (fun w' hw' => ?_) ?_
  · go_simp
  (try simp only [Act.put, List.setIfInBounds_toArray, List.set_cons_zero, List.set_cons_succ])
  refine wpQuiet_take (.pointer (some ⟨N, 2, none⟩)) (by kernel_rfl) (fun w' hw' => ?_) ?_
  · go_simp
  (try simp only [Act.put, List.setIfInBounds_toArray, List.set_cons_zero, List.set_cons_succ])
  refine wpQuiet_take (.int .i64 d) (by kernel_rfl) (fun w' hw' => ?_) ?_
  · have q := RowAt.cell (RowAt.step F.out hw') 2 _ rfl; go_simp
  (try simp only [Act.put, List.setIfInBounds_toArray, List.set_cons_zero, List.set_cons_succ])
  refine wpQuiet_take (.int .i64 (p - d)) (by kernel_rfl) (fun w' hw' => ?_) ?_
  · go_simp; rw [IntKind.wrap_i64]; omega
  (try simp only [Act.put, List.setIfInBounds_toArray, List.set_cons_zero, List.set_cons_succ])
  refine wpQuiet_take (.bool true) (by kernel_rfl) (fun w' hw' => ?_) ?_
  · go_simp
  (try simp only [Act.put, List.setIfInBounds_toArray, List.set_cons_zero, List.set_cons_succ])
  refine wpQuiet_take (.bool true) (by kernel_rfl) (fun w' hw' => ?_) ?_
  · go_simp
  (try simp only [Act.put, List.setIfInBounds_toArray, List.set_cons_zero, List.set_cons_succ])
  refine wpQuiet_take (.bool true) (by kernel_rfl) (fun w' hw' => ?_) ?_
  · go_simp
  (try simp only [Act.put, List.setIfInBounds_toArray, List.set_cons_zero, List.set_cons_succ])
  refine wpQuiet_nil ?_
  intro w11 hw11
  have hs := S.out.below
  go_wp2
  go_ret
  exact ⟨rfl, hs.trans (hw11.mono hs.size)⟩
theorem walk (p i : Int) (w : World) :
    Calls Try.prog 3 #[.int .i64 p, .int .i64 i] w fun e w' => e = .returned (.bool true) ∧ Below w.heap.size w w' := by
  cases h : Pl.rightB p i with
  | true => exact walk_yes p i w h
  | false => exact walk_no p i w h
set_option maxRecDepth 100000 in
theorem lifted (os : Os) (started : os.Started) (H : Type) (enc : TypeId × Value → H) :
    ReturnsInHanded {} Try.checked os 3 .any (Rows.planIsSpec.pre6 enc Try.prog Try.f3 Rows.planIsRow.domain false) (Rows.planIsSpec.post enc Try.prog Try.f3 false true false false) := by
  refine returnsInHanded_of_change (C := Try.checked) own started (by kernel_rfl) Try.func3
    (ChangeSpec.witness6 (enc := enc) (C := Try.checked) false ⟨#[], #[.int .i64 0, .int .i64 0], []⟩ 8 (by kernel_rfl) (by kernel_rfl) (by kernel_rfl) (by kernel_rfl)) ?_
  intro W base args ds gs before hval0 hW hcnd _
  have hval : ∀ (j : Nat) t v, Try.f3.params[j]? = some t → args[j]? = some v → Value.okWide Try.prog W .any base t v := hval0
  have hW' := hW
  obtain ⟨p, q, hA0, hV, rfl, hfz, hnd⟩ := hW
  have hA : DataW.TrodAll enc Try.prog W 0 (fun _ => true) true Try.f3.params.toList args.toList ds p := hA0
  rw [Try.params3] at hA hval
  obtain ⟨v0, vs0, d0, ds0, p0, q0, hargs, rfl, rfl, h0, r0⟩ := trodAll_cons hA
  obtain ⟨v1, vs1, d1, ds1, p1, q1, rfl, rfl, rfl, h1, r1⟩ := trodAll_cons r0
  obtain ⟨rfl, rfl, rfl⟩ := trodAll_nil r1
  obtain rfl : args = #[v0, v1] := by cases args; simp_all
  obtain ⟨rfl, rfl⟩ := trodVars_none hV
  have k0 := h0
  have lt0 : ∀ x ∈ p0, x.block < W.heap.size := by obtain ⟨m, hm⟩ := k0; exact DataW.trod_lt m _ _ _ hm
  have k1 := h1
  have lt1 : ∀ x ∈ p1, x.block < W.heap.size := by obtain ⟨m, hm⟩ := k1; exact DataW.trod_lt m _ _ _ hm
  obtain ⟨x0, rfl, ed0, ep0, w0⟩ := open_int Try.underlying3 (hval 0 3 v0 rfl rfl) h0
  obtain ⟨x1, rfl, ed1, ep1, w1⟩ := open_int Try.underlying3 (hval 1 3 v1 rfl rfl) h1
  clear hA0 hval0
  refine (walk x0 x1 W).mono fun e W' ⟨he, bel⟩ => ?_
  subst he
  exact ⟨_, rfl, _, _, _, [], _, [], hW', trodAll_mk1 (shut_bool Try.underlying4 _), (trodAll_cons_mk (Below.trod laidOut (by kernel_rfl) (of_decide_eq_true (by kernel_rfl)) k0 bel lt0) (trodAll_cons_mk (Below.trod laidOut (by kernel_rfl) (of_decide_eq_true (by kernel_rfl)) k1 bel lt1) trodAll_mk0)), rfl, bel.frame _, fun h => by cases h⟩
theorem over : Rows.planIsRow.holds Try.pinned (OpenSpec.ofChange Rows.planIsSpec) :=
  OpenClaim.holds_of_wide 3 Try.f3 rfl rfl rfl rfl rfl rfl rfl ⟨rfl, rfl, rfl, rfl, rfl⟩ rfl rfl rfl rfl rfl (by kernel_rfl) Try.func3 (by kernel_rfl)
    (of_decide_eq_true (by kernel_rfl)) (by unfold Func.isWrapper; first | (rw [if_pos (by decide +kernel)]; kernel_rfl) | (rw [if_neg (by decide +kernel)]; exact ⟨rfl, rfl⟩))
    (fun os started H enc _ => lifted os started H enc)

/-- THE STATEMENT -/
theorem proved : Rows.PlanIsSaid := over
#print axioms proved
end Go.Proofs.Yteajegplbmadiaa.planIs
