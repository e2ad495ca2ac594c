/-
  The contracts of inode.countsRight and numbersRight.
-/
import Derived.Test.YtchlhnpnenafnaaIclr
namespace Go.Proofs.Ytchlhnpnenafnaa
open Go.RowKit
open Ii (Ino)

set_option maxRecDepth 100000 in
set_option maxHeartbeats 1000000 in
theorem counts_any (x : Ino) (w : World) :
    Calls Try.prog 22 #[inoV x] w fun e w' => e = .returned (.bool (Ii.cntB x)) ∧ Below w.heap.size w w' := by
  have HE : Ii.cntB x = (decide (0 ≤ x.p ∧ x.p ≤ 511) && (decide (0 ≤ x.u ∧ x.u ≤ 65535) && (decide (0 ≤ x.l ∧ x.l ≤ 40) && decide (0 ≤ x.s ∧ x.s ≤ 67840)))) := by
    unfold Ii.cntB
    simp only [Bool.decide_and, Bool.and_assoc]
  rw [HE]
  clear HE
  have H1 := Lib.hid (fun w => upTo_any 511 x.p w)
  have H2 := Lib.hid (fun w => upTo_any 65535 x.u w)
  have H3 := Lib.hid (fun w => upTo_any 40 x.l w)
  have H4 := Lib.hid (fun w => upTo_any 67840 x.s w)
  generalize decide (0 ≤ x.p ∧ x.p ≤ 511) = b1 at H1 ⊢
  generalize decide (0 ≤ x.u ∧ x.u ≤ 65535) = b2 at H2 ⊢
  generalize decide (0 ≤ x.l ∧ x.l ≤ 40) = b3 at H3 ⊢
  generalize decide (0 ≤ x.s ∧ x.s ≤ 67840) = b4 at H4 ⊢
  have hrow := rowAt_new w (inoL x) 26
  have hbel : Below w.heap.size w (w.alloc (.cells (inoL x).toArray 26)) := (Below.refl _ _).alloc (Nat.le_refl _) _
  rcases (by cases b1 <;> cases b2 <;> cases b3 <;> simp : b1 = false ∨ (b1 = true ∧ b2 = false) ∨ (b1 = true ∧ b2 = true ∧ b3 = false) ∨ (b1 = true ∧ b2 = true ∧ b3 = true)) with rfl | ⟨rfl, rfl⟩ | ⟨rfl, rfl, rfl⟩ | ⟨rfl, rfl, rfl⟩
  all_goals
    simp only [Bool.false_and, Bool.true_and]
    unfold inoV
    go_enter Try.func22, Try.ntmps22
    go_wp2_with fail
    generalize hw : w.alloc _ = w1
    have HB : Hid (Below w.heap.size w w1) := Lib.hid (by rw [← hw]; exact hbel)
    have hr : RowAt w1 w.heap.size (inoL x) := by rw [← hw]; exact hrow
    have hc1 := hr.cell 1 _ rfl
    have hc2 := hr.cell 2 _ rfl
    have hc3 := hr.cell 3 _ rfl
    have hc4 := hr.cell 4 _ rfl
    clear hw hrow hbel hr
    go_wp2_with (first
      | (go_at_call 28; (with_reducible refine (H1.out _).mono ?_); rintro e w' ⟨rfl, rfl⟩)
      | (go_at_call 28; (with_reducible refine (H2.out _).mono ?_); rintro e w' ⟨rfl, rfl⟩)
      | (go_at_call 28; (with_reducible refine (H3.out _).mono ?_); rintro e w' ⟨rfl, rfl⟩)
      | (go_at_call 28; (with_reducible refine (H4.out _).mono ?_); rintro e w' ⟨rfl, rfl⟩))
    go_ret
    exact ⟨rfl, HB.out⟩

/-! ### the four numbers, and two more -/
/-- are the first of the four right? -/
def firstB (p i : Int) (x : Ino) : Nat → Bool
  | 0 => true
  | k + 1 => firstB p i x k && Ii.numB p i (x.dir k)
theorem numsB_is (p i : Int) (x : Ino) : Ii.numsB p i x = (firstB p i x 4 && (Ii.numB p i x.e && Ii.numB p i x.f)) := by
  unfold Ii.numsB firstB firstB firstB firstB firstB
  simp only [Ii.Ino.dir, Bool.true_and, Bool.and_assoc]
theorem first_no (p i : Int) (x : Ino) (k : Nat) (hk : k < 4) (h : Ii.numB p i (x.dir k) = false) : Ii.numsB p i x = false := by
  rw [numsB_is]
  have : k = 0 ∨ k = 1 ∨ k = 2 ∨ k = 3 := by omega
  rcases this with rfl | rfl | rfl | rfl <;> (unfold firstB firstB firstB firstB firstB; rw [h]; simp)
/-- what stands in memory: the inode, the plan -/
structure NrS (w0 : World) (x : Ino) (vs : List Value) (W : World) : Prop where
  ino : RowAt W w0.heap.size (inoL x)
  plan : RowAt W (w0.heap.size + 1) vs
  below : Below w0.heap.size w0 W
theorem NrS.call {w0 : World} {x : Ino} {v : Value} {vs : List Value} {W W' : World} (k : NrS w0 x (v :: vs) W) (hb : Below W.heap.size W W') : NrS w0 x (v :: vs) W' :=
  ⟨RowAt.step k.ino hb, RowAt.step k.plan hb, k.below.trans (hb.mono k.below.size)⟩
theorem NrS.drew {w0 : World} {x : Ino} {vs : List Value} {W : World} (k : NrS w0 x vs W) : NrS w0 x vs W.drew := ⟨k.ino.drew, k.plan.drew, k.below.drew⟩
theorem nrS_box (w : World) (x : Ino) (vs : List Value) (t u : TypeId) : NrS w x vs ((w.alloc (.cells (inoL x).toArray t)).alloc (.cells vs.toArray u)) where
  ino := (rowAt_new w (inoL x) t).alloc _
  plan := by
    have h := rowAt_new (w.alloc (.cells (inoL x).toArray t)) vs u
    rw [World.size_alloc] at h
    exact h
  below := ((Below.refl _ _).alloc (Nat.le_refl _) _).alloc (by simp) _

set_option maxRecDepth 100000 in
set_option maxHeartbeats 2000000 in
theorem numbers_any (p i : Int) (x : Ino) (w : World) (h : Pl.rightB p i = true) :
    Calls Try.prog 23 #[inoV x, planV p i] w fun e w' => e = .returned (.bool (Ii.numsB p i x)) ∧ Below w.heap.size w w' := by
  have HN : Hid (∀ n w, Calls Try.prog 29 #[.int .i64 n, .agg (planL p i).toArray] w fun e w' => e = .returned (.bool (Ii.numB p i n)) ∧ Below w.heap.size w w') := Lib.hid (fun n w => numberRight_any p i n w h)
  have HS := Lib.hid (nrS_box w x (planL p i) 26 35)
  clear h
  unfold inoV planV
  go_enter Try.func23, Try.ntmps23
  go_wp2_with fail
  generalize hw : (w.alloc _).alloc _ = w1
  have S : Hid (NrS w x (planL p i) w1) := Lib.hid (by rw [← hw]; exact HS.out)
  clear hw HS
  go_wp2_with (with_reducible refine wpList_load_four S.out.ino rfl (.tmp 7) rfl rfl ?_)
  go_loopw [9] (fun n wr => ∃ k : Nat, k ≤ 4 ∧ n = .int .i64 (k : Int) ∧ Hid (firstB p i x k = true) ∧ NrS w x (planL p i) wr) (fun n _ => 4 - (intOf n).toNat)
  case atStart => exact ⟨0, by omega, rfl, Lib.hid rfl, S.out⟩
  case round =>
    clear S
    obtain ⟨k, hk, rfl, HF, hS⟩ := hrel
    have S := Lib.hid hS
    clear hS
    have hk : k = 0 ∨ k = 1 ∨ k = 2 ∨ k = 3 ∨ k = 4 := by omega
    rcases hk with rfl | rfl | rfl | rfl | rfl
    · have hix := fun W => index_four0 x W
      have H5 := Lib.hid (fun w => HN.out x.a w)
      cases hb5 : Ii.numB p i x.a with
      | false =>
        have HE := Lib.hid (first_no p i x 0 (by omega) hb5)
        rw [hb5] at H5
        clear hb5 HN HF
        go_wp2_with (first
          | (with_reducible refine wpList_load_row planT S.out.plan rfl rfl (.tmp 3) rfl rfl ?_)
          | (go_at_call 29; (with_reducible refine (H5.out _).mono ?_); rintro e w' ⟨rfl, hb⟩; replace S := Lib.hid (S.out.call hb); clear hb))
        go_ret
        exact ⟨by rw [HE.out]; rfl, S.out.below⟩
      | true =>
        have HF2 : Hid (firstB p i x 1 = true) := Lib.hid (by
          unfold firstB
          rw [HF.out]
          exact hb5)
        rw [hb5] at H5
        clear hb5 HN HF
        go_wp2_with (first
          | (with_reducible refine wpList_load_row planT S.out.plan rfl rfl (.tmp 3) rfl rfl ?_)
          | (go_at_call 29; (with_reducible refine (H5.out _).mono ?_); rintro e w' ⟨rfl, hb⟩; replace S := Lib.hid (S.out.call hb); clear hb))
        go_roundw
        case rel => exact ⟨1, by omega, rfl, HF2, S.out⟩
        case measure => simp [intOf]
    · have hix := fun W => index_four1 x W
      have H5 := Lib.hid (fun w => HN.out x.b w)
      cases hb5 : Ii.numB p i x.b with
      | false =>
        have HE := Lib.hid (first_no p i x 1 (by omega) hb5)
        rw [hb5] at H5
        clear hb5 HN HF
        go_wp2_with (first
          | (with_reducible refine wpList_load_row planT S.out.plan rfl rfl (.tmp 3) rfl rfl ?_)
          | (go_at_call 29; (with_reducible refine (H5.out _).mono ?_); rintro e w' ⟨rfl, hb⟩; replace S := Lib.hid (S.out.call hb); clear hb))
        go_ret
        exact ⟨by rw [HE.out]; rfl, S.out.below⟩
      | true =>
        have HF2 : Hid (firstB p i x 2 = true) := Lib.hid (by
          unfold firstB
          rw [HF.out]
          exact hb5)
        rw [hb5] at H5
        clear hb5 HN HF
        go_wp2_with (first
          | (with_reducible refine wpList_load_row planT S.out.plan rfl rfl (.tmp 3) rfl rfl ?_)
          | (go_at_call 29; (with_reducible refine (H5.out _).mono ?_); rintro e w' ⟨rfl, hb⟩; replace S := Lib.hid (S.out.call hb); clear hb))
        go_roundw
        case rel => exact ⟨2, by omega, rfl, HF2, S.out⟩
        case measure => simp [intOf]
    · have hix := fun W => index_four2 x W
      have H5 := Lib.hid (fun w => HN.out x.c w)
      cases hb5 : Ii.numB p i x.c with
      | false =>
        have HE := Lib.hid (first_no p i x 2 (by omega) hb5)
        rw [hb5] at H5
        clear hb5 HN HF
        go_wp2_with (first
          | (with_reducible refine wpList_load_row planT S.out.plan rfl rfl (.tmp 3) rfl rfl ?_)
          | (go_at_call 29; (with_reducible refine (H5.out _).mono ?_); rintro e w' ⟨rfl, hb⟩; replace S := Lib.hid (S.out.call hb); clear hb))
        go_ret
        exact ⟨by rw [HE.out]; rfl, S.out.below⟩
      | true =>
        have HF2 : Hid (firstB p i x 3 = true) := Lib.hid (by
          unfold firstB
          rw [HF.out]
          exact hb5)
        rw [hb5] at H5
        clear hb5 HN HF
        go_wp2_with (first
          | (with_reducible refine wpList_load_row planT S.out.plan rfl rfl (.tmp 3) rfl rfl ?_)
          | (go_at_call 29; (with_reducible refine (H5.out _).mono ?_); rintro e w' ⟨rfl, hb⟩; replace S := Lib.hid (S.out.call hb); clear hb))
        go_roundw
        case rel => exact ⟨3, by omega, rfl, HF2, S.out⟩
        case measure => simp [intOf]
    · have hix := fun W => index_four3 x W
      have H5 := Lib.hid (fun w => HN.out x.d w)
      cases hb5 : Ii.numB p i x.d with
      | false =>
        have HE := Lib.hid (first_no p i x 3 (by omega) hb5)
        rw [hb5] at H5
        clear hb5 HN HF
        go_wp2_with (first
          | (with_reducible refine wpList_load_row planT S.out.plan rfl rfl (.tmp 3) rfl rfl ?_)
          | (go_at_call 29; (with_reducible refine (H5.out _).mono ?_); rintro e w' ⟨rfl, hb⟩; replace S := Lib.hid (S.out.call hb); clear hb))
        go_ret
        exact ⟨by rw [HE.out]; rfl, S.out.below⟩
      | true =>
        have HF2 : Hid (firstB p i x 4 = true) := Lib.hid (by
          unfold firstB
          rw [HF.out]
          exact hb5)
        rw [hb5] at H5
        clear hb5 HN HF
        go_wp2_with (first
          | (with_reducible refine wpList_load_row planT S.out.plan rfl rfl (.tmp 3) rfl rfl ?_)
          | (go_at_call 29; (with_reducible refine (H5.out _).mono ?_); rintro e w' ⟨rfl, hb⟩; replace S := Lib.hid (S.out.call hb); clear hb))
        go_roundw
        case rel => exact ⟨4, by omega, rfl, HF2, S.out⟩
        case measure => simp [intOf]
    · have HE : Hid (Ii.numsB p i x = (Ii.numB p i x.e && Ii.numB p i x.f)) := Lib.hid (by rw [numsB_is, HF.out, Bool.true_and])
      have H5 := Lib.hid (fun w => HN.out x.e w)
      have H6 : Hid (∀ w, Calls Try.prog 29 #[.int .i64 x.f, .agg #[.int .i64 p, .int .i64 i]] w fun e w' => e = .returned (.bool (Ii.numB p i x.f)) ∧ Below w.heap.size w w') := Lib.hid (fun w => HN.out x.f w)
      generalize Ii.numB p i x.e = b5 at H5 HE
      generalize Ii.numB p i x.f = b6 at H6 HE
      clear HN HF
      have hc9 := S.out.ino.cell 9 _ rfl
      cases b5
      all_goals
        go_wp2_with (first
          | (with_reducible refine wpList_load_row planT S.out.plan rfl rfl (.tmp 3) rfl rfl ?_)
          | ((with_reducible refine wpList_loadg_row planT S.out.plan rfl (.tmp 3) rfl rfl ?_ ?_); (exact rfl))
          | (go_at_call 29; (with_reducible refine (H5.out _).mono ?_); rintro e w' ⟨rfl, hb⟩; clear hc9; replace S := Lib.hid (S.out.call hb); have hc10 := S.out.ino.cell 10 _ rfl; clear hb)
          | (go_at_call 29; (with_reducible refine (H6.out _).mono ?_); rintro e w' ⟨rfl, hb⟩; replace S := Lib.hid (S.out.call hb); clear hb))
        go_ret
        exact ⟨by rw [HE.out]; rfl, S.out.below⟩
end Go.Proofs.Ytchlhnpnenafnaa
