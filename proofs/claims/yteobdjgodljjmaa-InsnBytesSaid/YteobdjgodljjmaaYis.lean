/-
  The project's own partRight, isShift, isRight, HasImm, IsJump, Right.
-/
import Derived.Test.YteobdjgodljjmaaYuse
import Derived.Test.YteobdjgodljjmaaYlists
namespace Go.Proofs.Yteobdjgodljjmaa
open Go.RowKit Go.Maps

theorem part_any (u : Bool) (n lo hi : Int) (w : World) : Calls Try.prog 35 #[.bool u, .int .i64 n, .int .i64 lo, .int .i64 hi] w fun e w' => e = .returned (.bool (Y.inB u n lo hi)) ∧ w = w' := by
  go_enter Try.func35, Try.ntmps35
  go_wp2
  all_goals
    go_ret
    refine ⟨ret_bool ?_, rfl⟩
    unfold Y.inB
    rw [Bool.eq_iff_iff]
    simp_all
    try omega
def shift (o : Int) : Bool := o == 26 || o == 27
theorem shift_any (o : Int) (w : World) : Calls Try.prog 36 #[.int .i64 o] w fun e w' => e = .returned (.bool (shift o)) ∧ w = w' := by
  go_enter Try.func36, Try.ntmps36
  go_wp2
  all_goals
    go_ret
    refine ⟨ret_bool ?_, rfl⟩
    unfold shift
    simp_all
theorem isJump_any (o : Int) (w : World) : Calls Try.prog 18 #[.int .i64 o] w fun e w' => e = .returned (.bool (Y.isJump o)) ∧ Below w.heap.size w w' := by
  have HB := Lib.hid (Below.refl w.heap.size w)
  go_enter Try.func18, Try.ntmps18
  go_wp2
  all_goals
    go_ret
    refine ⟨ret_bool ?_, HB.out⟩
    unfold Y.isJump
    rw [Bool.eq_iff_iff]
    simp
    try omega
theorem imm_eq (o : Int) : Y.hasImm o = ((Y.known o && Y.useImm o) && decide (o ≠ 64)) := by
  unfold Y.known Y.useImm Y.hasImm
  rw [Bool.eq_iff_iff]
  simp
  omega
set_option maxRecDepth 100000 in
theorem hasImm_any (o : Int) (w : World) : Calls Try.prog 16 #[.int .i64 o] w fun e w' => e = .returned (.bool (Y.hasImm o)) ∧ Below w.heap.size w w' := by
  have HU := Lib.hid (usesOf_any o w)
  have HE := Lib.hid (imm_eq o)
  unfold useL at HU
  generalize (Y.known o && Y.useDst o) = a at HU
  generalize (Y.known o && Y.useSrc o) = b at HU
  generalize (Y.known o && Y.useOff o) = c at HU
  generalize (Y.known o && Y.useImm o) = d at HU HE
  generalize Y.known o = k at HU
  go_enter Try.func16, Try.ntmps16
  cases d
  all_goals
    go_wp2_with (go_at_call 28; (with_reducible refine HU.out.mono ?_); rintro e w' ⟨rfl, hb⟩; have B := Lib.hid hb; clear hb)
    go_ret
    refine ⟨ret_bool ?_, B.out.alloc B.out.size _⟩
    rw [HE.out]
    rw [Bool.eq_iff_iff]
    simp
/-- the cells of what an Op uses, and of the instruction -/
theorem right_is (x : Y.In) : Y.right x = (Y.known x.op && Y.inB (Y.known x.op && Y.useDst x.op) x.dst 0 7 && Y.inB (Y.known x.op && Y.useSrc x.op) x.src 0 7 && Y.inB (Y.known x.op && Y.useOff x.op) x.off (-32768) 32767 && Y.inB (Y.known x.op && Y.useImm x.op) x.imm (-2147483648) 2147483647 && (!shift x.op || Y.inB true x.imm 0 63)) := by
  unfold Y.right shift
  cases Y.known x.op
  · simp
  · simp only [Bool.true_and]
    rfl
set_option maxRecDepth 100000 in
set_option maxHeartbeats 4000000 in
theorem isRight_any (x : Y.In) (w : World) : Calls Try.prog 24 #[inV x] w fun e w' => e = .returned (.bool (Y.right x)) ∧ Below w.heap.size w w' := by
  have HU := Lib.hid (fun w => usesOf_any x.op w)
  have HE := Lib.hid (right_is x)
  have HP := Lib.hid (fun u n lo hi w => part_any u n lo hi w)
  have HS := Lib.hid (fun w => shift_any x.op w)
  have S0 := Lib.hid (boxS_new w x 42)
  unfold useL at HU
  generalize (Y.known x.op && Y.useDst x.op) = a at HU HE
  generalize (Y.known x.op && Y.useSrc x.op) = b at HU HE
  generalize (Y.known x.op && Y.useOff x.op) = c at HU HE
  generalize (Y.known x.op && Y.useImm x.op) = d at HU HE
  generalize Y.known x.op = k at HU HE
  generalize shift x.op = sh at HS HE
  generalize Y.right x = r at HE ⊢
  unfold inV inL
  go_enter Try.func24, Try.ntmps24
  go_upto_region 1 with fail
  have S := S0
  clear S0
  generalize w.alloc (.cells #[.int .i64 x.op, .int .i64 x.dst, .int .i64 x.src, .int .i64 x.off, .int .i64 x.imm] 42) = W1 at S ⊢
  obtain ⟨c0, c1, c2, c3, c4⟩ := S.out.cells
  go_upto_region 2 with (go_at_call 28; (with_reducible refine (HU.out _).mono ?_); rintro e w2 ⟨rfl, hb⟩; have S2 := Lib.hid (S.out.call hb); clear hb S c0 c1 c2 c3 c4 HU)
  have S3 : Hid (BoxS w w.heap.size x (w2.alloc (.cells #[.bool a, .bool b, .bool c, .bool d] 61))) := Lib.hid (S2.out.call ((Below.refl _ _).alloc (Nat.le_refl _) _))
  have U : Hid (RowAt (w2.alloc (.cells #[.bool a, .bool b, .bool c, .bool d] 61)) w2.heap.size [.bool a, .bool b, .bool c, .bool d]) := Lib.hid (rowAt_new w2 _ _)
  generalize w2.alloc (.cells #[.bool a, .bool b, .bool c, .bool d] 61) = W3 at S3 U ⊢
  obtain ⟨c0, c1, c2, c3, c4⟩ := S3.out.cells
  have u0 := U.out.cell 0 _ rfl
  have u1 := U.out.cell 1 _ rfl
  have u2 := U.out.cell 2 _ rfl
  have u3 := U.out.cell 3 _ rfl
  generalize w2.heap.size = B2 at U u0 u1 u2 u3 ⊢
  clear U S2
  go_wp2_with (first
    | (go_at_call 35; (with_reducible refine (HP.out _ _ _ _ _).mono ?_); rintro e w' ⟨rfl, rfl⟩)
    | (go_at_call 36; (with_reducible refine (HS.out _).mono ?_); rintro e w' ⟨rfl, rfl⟩))
  all_goals
    go_ret
    refine ⟨ret_bool ?_, S3.out.bel⟩
    rw [HE.out]
    simp_all
end Go.Proofs.Yteobdjgodljjmaa
