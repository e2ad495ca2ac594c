/-
  The contract of inode.Right.
-/
import Derived.Test.YtchlhnpnenafnaaIcnt
namespace Go.Proofs.Ytchlhnpnenafnaa
open Go.RowKit
open Ii (Ino)

set_option maxRecDepth 100000 in
set_option maxHeartbeats 1000000 in
theorem iright_no (p i : Int) (x : Ino) (w : World) (h : Pl.rightB p i = false) :
    Calls Try.prog 13 #[inoV x, planV p i] w fun e w' => e = .returned (.bool false) ∧ Below w.heap.size w w' := by
  have HR : Hid (∀ w, Calls Try.prog 21 #[.agg #[.int .i64 p, .int .i64 i]] w fun e w' => e = .returned (.int .i64 0) ∧ Below w.heap.size w w') := Lib.hid (fun w => plRoom_no p i w h)
  have HS := Lib.hid (nrS_box w x (planL p i) 26 35)
  clear h
  unfold inoV planV
  go_enter Try.func13, Try.ntmps13
  go_wp2_with fail
  generalize hw : (w.alloc _).alloc _ = w1
  have S : Hid (NrS w x (planL p i) w1) := Lib.hid (by rw [← hw]; exact HS.out)
  clear hw HS
  go_wp2_with (first
    | (with_reducible refine wpList_load_row planT S.out.plan rfl rfl (.tmp 3) rfl rfl ?_)
    | (go_at_call 21; (with_reducible refine (HR.out _).mono ?_); rintro e w' ⟨rfl, hb⟩; replace S := Lib.hid (S.out.call hb); clear hb))
  go_ret
  exact ⟨rfl, S.out.below⟩

set_option maxRecDepth 100000 in
set_option maxHeartbeats 1000000 in
theorem iright_zero (p i : Int) (x : Ino) (w : World) (h : Pl.rightB p i = true) (hk : x.k = 0) :
    Calls Try.prog 13 #[inoV x, planV p i] w fun e w' => e = .returned (.bool (Ii.zeroB x)) ∧ Below w.heap.size w w' := by
  obtain ⟨r1, r2, r3, r4⟩ := Pl.right_yes h
  have HR : Hid (∀ w, Calls Try.prog 21 #[.agg #[.int .i64 p, .int .i64 i]] w fun e w' => e = .returned (.int .i64 (p - Pl.dataN i)) ∧ Below w.heap.size w w') := Lib.hid (fun w => plRoom_yes p i w h)
  have HS := Lib.hid (nrS_box w x (planL p i) 26 35)
  have g0 : ((p - Pl.dataN i) == 0) = false := by rw [beq_eq_false_iff_ne]; omega
  have g1 : (x.k == 0) = true := by simpa using hk
  have E1 : ∀ (a b : Operand) (w : World), (eqGuard .eql 26 a b (.agg (inoL x).toArray) (.agg #[.int .i64 0, .int .i64 0, .int .i64 0, .int .i64 0, .int .i64 0, .int .i64 0, .int .i64 0, .int .i64 0, .int .i64 0, .int .i64 0, .int .i64 0])).run Try.prog w = .ok () w := fun a b w => run_eqGuard_ino w a b x Ii.zero
  have E2 : ∀ (w : World), (binOp .eql 26 (.agg (inoL x).toArray) (.agg #[.int .i64 0, .int .i64 0, .int .i64 0, .int .i64 0, .int .i64 0, .int .i64 0, .int .i64 0, .int .i64 0, .int .i64 0, .int .i64 0, .int .i64 0])).run Try.prog w = .ok (.bool (Ii.zeroB x)) w := fun w => run_zero_ino w x
  clear h hk r1 r2 r3 r4
  generalize p - Pl.dataN i = r at HR g0
  unfold inoV planV
  go_enter Try.func13, Try.ntmps13
  go_wp2_with fail
  generalize hw : (w.alloc _).alloc _ = w1
  have S : Hid (NrS w x (planL p i) w1) := Lib.hid (by rw [← hw]; exact HS.out)
  clear hw HS
  go_wp2_with (first
    | (with_reducible refine wpList_load_row planT S.out.plan rfl rfl (.tmp 3) rfl rfl ?_)
    | (with_reducible refine wpList_load_row inoT S.out.ino rfl rfl (.tmp 2) rfl rfl ?_)
    | (go_at_call 21; (with_reducible refine (HR.out _).mono ?_); rintro e w' ⟨rfl, hb⟩; replace S := Lib.hid (S.out.call hb); have hc0 := S.out.ino.cell 0 _ rfl; clear hb))
  go_ret
  exact ⟨rfl, S.out.below⟩

set_option maxRecDepth 100000 in
set_option maxHeartbeats 2000000 in
theorem iright_some (p i : Int) (x : Ino) (w : World) (h : Pl.rightB p i = true) (hk : x.k = 1 ∨ x.k = 2 ∨ x.k = 3) :
    Calls Try.prog 13 #[inoV x, planV p i] w fun e w' => e = .returned (.bool (Ii.cntB x && Ii.numsB p i x)) ∧ Below w.heap.size w w' := by
  obtain ⟨r1, r2, r3, r4⟩ := Pl.right_yes h
  have HR : Hid (∀ w, Calls Try.prog 21 #[.agg #[.int .i64 p, .int .i64 i]] w fun e w' => e = .returned (.int .i64 (p - Pl.dataN i)) ∧ Below w.heap.size w w') := Lib.hid (fun w => plRoom_yes p i w h)
  have HC : Hid (∀ w, Calls Try.prog 22 #[.agg (inoL x).toArray] w fun e w' => e = .returned (.bool (Ii.cntB x)) ∧ Below w.heap.size w w') := Lib.hid (fun w => counts_any x w)
  have HN : Hid (∀ w, Calls Try.prog 23 #[.agg #[.int .i64 x.k, .int .i64 x.p, .int .i64 x.u, .int .i64 x.l, .int .i64 x.s, .int .i64 x.a, .int .i64 x.b, .int .i64 x.c, .int .i64 x.d, .int .i64 x.e, .int .i64 x.f], .agg #[.int .i64 p, .int .i64 i]] w fun e w' => e = .returned (.bool (Ii.numsB p i x)) ∧ Below w.heap.size w w') := Lib.hid (fun w => numbers_any p i x w h)
  have HS := Lib.hid (nrS_box w x (planL p i) 26 35)
  have g0 : ((p - Pl.dataN i) == 0) = false := by rw [beq_eq_false_iff_ne]; omega
  have gk : (x.k == 0) = false := by rw [beq_eq_false_iff_ne]; omega
  have hk : (x.k == 1) = true ∨ ((x.k == 1) = false ∧ (x.k == 2) = true) ∨ ((x.k == 1) = false ∧ (x.k == 2) = false ∧ (x.k == 3) = true) := by
    simp only [beq_eq_false_iff_ne, beq_iff_eq]
    omega
  clear h r1 r2 r3 r4
  generalize p - Pl.dataN i = r at HR g0
  obtain ⟨b2, HE2⟩ : ∃ b, Hid (b = Ii.numsB p i x) := ⟨_, Lib.hid rfl⟩
  rw [← HE2.out] at HN ⊢
  clear HE2
  cases hb1 : Ii.cntB x
  all_goals
    rw [hb1] at HC
    simp only [Bool.false_and, Bool.true_and]
    clear hb1
    unfold inoV planV
    rcases hk with g1 | ⟨g1, g2⟩ | ⟨g1, g2, g3⟩
  all_goals
    go_enter Try.func13, Try.ntmps13
    go_wp2_with fail
    generalize hw : (w.alloc _).alloc _ = w1
    have S : Hid (NrS w x (planL p i) w1) := Lib.hid (by rw [← hw]; exact HS.out)
    clear hw HS
    go_wp2_with (first
      | (with_reducible refine wpList_load_row planT S.out.plan rfl rfl (.tmp 3) rfl rfl ?_)
      | (with_reducible refine wpList_load_row inoT S.out.ino rfl rfl (.tmp 2) rfl rfl ?_)
      | (go_at_call 21; (with_reducible refine (HR.out _).mono ?_); rintro e w' ⟨rfl, hb⟩; replace S := Lib.hid (S.out.call hb); have hc0 := S.out.ino.cell 0 _ rfl; clear hb)
      | (go_at_call 22; (with_reducible refine (HC.out _).mono ?_); rintro e w' ⟨rfl, hb⟩; clear hc0; replace S := Lib.hid (S.out.call hb); clear hb; have i0 := S.out.ino.cell 0 _ rfl; have i1 := S.out.ino.cell 1 _ rfl; have i2 := S.out.ino.cell 2 _ rfl; have i3 := S.out.ino.cell 3 _ rfl; have i4 := S.out.ino.cell 4 _ rfl; have i5 := S.out.ino.cell 5 _ rfl; have i6 := S.out.ino.cell 6 _ rfl; have i7 := S.out.ino.cell 7 _ rfl; have i8 := S.out.ino.cell 8 _ rfl; have i9 := S.out.ino.cell 9 _ rfl; have i10 := S.out.ino.cell 10 _ rfl; have j0 := S.out.plan.cell 0 _ rfl; have j1 := S.out.plan.cell 1 _ rfl)
      | (go_at_call 23; (with_reducible refine (HN.out _).mono ?_); rintro e w' ⟨rfl, hb⟩; clear i0 i1 i2 i3 i4 i5 i6 i7 i8 i9 i10 j0 j1; replace S := Lib.hid (S.out.call hb); clear hb))
    go_ret
    exact ⟨rfl, S.out.below⟩

set_option maxRecDepth 100000 in
set_option maxHeartbeats 1000000 in
theorem iright_else (p i : Int) (x : Ino) (w : World) (h : Pl.rightB p i = true) (hk : x.k < 0 ∨ 3 < x.k) :
    Calls Try.prog 13 #[inoV x, planV p i] w fun e w' => e = .returned (.bool false) ∧ Below w.heap.size w w' := by
  obtain ⟨r1, r2, r3, r4⟩ := Pl.right_yes h
  have HR : Hid (∀ w, Calls Try.prog 21 #[.agg #[.int .i64 p, .int .i64 i]] w fun e w' => e = .returned (.int .i64 (p - Pl.dataN i)) ∧ Below w.heap.size w w') := Lib.hid (fun w => plRoom_yes p i w h)
  have HS := Lib.hid (nrS_box w x (planL p i) 26 35)
  have g0 : ((p - Pl.dataN i) == 0) = false := by rw [beq_eq_false_iff_ne]; omega
  have gk : (x.k == 0) = false := by rw [beq_eq_false_iff_ne]; omega
  have g1 : (x.k == 1) = false := by rw [beq_eq_false_iff_ne]; omega
  have g2 : (x.k == 2) = false := by rw [beq_eq_false_iff_ne]; omega
  have g3 : (x.k == 3) = false := by rw [beq_eq_false_iff_ne]; omega
  clear h r1 r2 r3 r4 hk
  generalize p - Pl.dataN i = r at HR g0
  unfold inoV planV
  go_enter Try.func13, Try.ntmps13
  go_wp2_with fail
  generalize hw : (w.alloc _).alloc _ = w1
  have S : Hid (NrS w x (planL p i) w1) := Lib.hid (by rw [← hw]; exact HS.out)
  clear hw HS
  go_wp2_with (first
    | (with_reducible refine wpList_load_row planT S.out.plan rfl rfl (.tmp 3) rfl rfl ?_)
    | (go_at_call 21; (with_reducible refine (HR.out _).mono ?_); rintro e w' ⟨rfl, hb⟩; replace S := Lib.hid (S.out.call hb); have hc0 := S.out.ino.cell 0 _ rfl; clear hb))
  go_ret
  exact ⟨rfl, S.out.below⟩

theorem iright_any (p i : Int) (x : Ino) (w : World) :
    Calls Try.prog 13 #[inoV x, planV p i] w fun e w' => e = .returned (.bool (Ii.rightI p i x)) ∧ Below w.heap.size w w' := by
  unfold Ii.rightI Ii.inB
  cases h : Pl.rightB p i with
  | false => exact iright_no p i x w h
  | true =>
    rw [Bool.true_and]
    by_cases k0 : x.k = 0
    · rw [if_pos k0]; exact iright_zero p i x w h k0
    · rw [if_neg k0]
      by_cases k1 : 1 ≤ x.k ∧ x.k ≤ 3
      · rw [decide_eq_true k1, Bool.true_and]; exact iright_some p i x w h (by omega)
      · rw [decide_eq_false k1, Bool.false_and]; exact iright_else p i x w h (by omega)
end Go.Proofs.Ytchlhnpnenafnaa
