/-
  The contracts of the plan's methods and of plan.New.
-/
import Derived.Test.YtchlhnpnenafnaaLleaf
namespace Go.Proofs.Ytchlhnpnenafnaa
open Go.RowKit

set_option maxHeartbeats 400000 in
theorem plRoom_yes (p i : Int) (w : World) (h : Pl.rightB p i = true) :
    Calls Try.prog 21 #[planV p i] w fun e w' => e = .returned (.int .i64 (p - Pl.dataN i)) ∧ Below w.heap.size w w' := by
  obtain ⟨r1, r2, r3, r4⟩ := Pl.right_yes h
  have hd := Pl.data_bd r1 r2
  have HC := Lib.hid (fun w => dataAt_any i w (by omega) (by omega))
  unfold planV
  go_enter Try.func21, Try.ntmps21
  go_wp2_with (go_at_call 26; refine (right_is p i _ _ h).mono ?_; rintro e w' ⟨rfl, hb⟩; have HB := Lib.hid (plan_box w p i (by simpa using hb)); have hc1 := HB.out.1.cell 1 _ rfl; have hc0 := HB.out.1.cell 0 _ rfl; clear hb)
  go_quiet ((go_at_call 27; refine Calls.quiet_of_same ((HC.out _).mono fun e w' h => ⟨h.1, h.2.symm⟩)))
  go_wp2
  go_ret
  exact ⟨rfl, HB.out.2.1.trans (below_drewN _ _ _)⟩
set_option maxHeartbeats 400000 in
theorem plRoom_no (p i : Int) (w : World) (h : Pl.rightB p i = false) :
    Calls Try.prog 21 #[planV p i] w fun e w' => e = .returned (.int .i64 0) ∧ Below w.heap.size w w' := by
  unfold planV
  go_enter Try.func21, Try.ntmps21
  go_wp2_with (go_at_call 26; refine (right_is p i _ _ h).mono ?_; rintro e w' ⟨rfl, hb⟩; have HB := Lib.hid (plan_box w p i (by simpa using hb)); clear hb)
  go_ret
  exact ⟨rfl, HB.out.2.1⟩
/-! ### New: the plan, or none -/
/-- what stands before the question: the plan that is handed back, and the plan -/
theorem new_box (w : World) (p i : Int) {w' : World} (hb : Below (w.heap.size + 2) ((w.alloc (.cells #[.int .i64 0, .int .i64 0] 35)).alloc (.cells #[.int .i64 p, .int .i64 i] 35)) w') :
    RowAt w' w.heap.size (planL 0 0) ∧ RowAt w' (w.heap.size + 1) (planL p i) ∧ Below w.heap.size w w' := by
  have h0 := (rowAt_new w (planL 0 0) 35).alloc (.cells #[.int .i64 p, .int .i64 i] 35)
  have h1 := rowAt_new (w.alloc (.cells (planL 0 0).toArray 35)) (planL p i) 35
  rw [World.size_alloc] at h1
  have hs := hb.size
  simp at hs
  exact ⟨h0.below hb (by omega), h1.below hb (by omega), (((Below.refl _ _).alloc (Nat.le_refl _) _).alloc (by simp) _).trans (hb.mono (by omega))⟩
/-! ### Place -/
/-! ### Bit and At -/
set_option maxHeartbeats 400000 in
theorem bit_yes (p i n : Int) (w : World) (h : Pl.rightB p i = true) (h1 : Pl.dataN i ≤ n) (h2 : n < p) :
    Calls Try.prog 31 #[planV p i, .int .i64 n] w fun e w' => e = .returned (.int .i64 (n - Pl.dataN i)) ∧ Below w.heap.size w w' := by
  obtain ⟨r1, r2, r3, r4⟩ := Pl.right_yes h
  have hd := Pl.data_bd r1 r2
  have g1 : decide (n < Pl.dataN i) = false := decide_eq_false (by omega)
  have g2 : decide (p ≤ n) = false := decide_eq_false (by omega)
  unfold planV
  go_enter Try.func31, Try.ntmps31
  go_wp2_with (first
    | (go_at_call 26; refine (right_is p i _ _ h).mono ?_; rintro e w' ⟨rfl, hb⟩; have HB := Lib.hid (plan_box w p i (by simpa using hb)); have hc1 := HB.out.1.cell 1 _ rfl; have hc0 := HB.out.1.cell 0 _ rfl; clear hb)
    | (go_at_call 27; refine (dataAt_any i _ (by omega) (by omega)).mono ?_; rintro e w2 ⟨rfl, rfl⟩))
  go_ret
  exact ⟨rfl, HB.out.2.1⟩
set_option maxHeartbeats 400000 in
theorem bit_no (p i n : Int) (w : World) (h : Pl.rightB p i = true) (h1 : n < Pl.dataN i ∨ p ≤ n) :
    Calls Try.prog 31 #[planV p i, .int .i64 n] w fun e w' => e = .returned (.int .i64 (-1)) ∧ Below w.heap.size w w' := by
  obtain ⟨r1, r2, r3, r4⟩ := Pl.right_yes h
  have hd := Pl.data_bd r1 r2
  unfold planV
  by_cases c : n < Pl.dataN i
  · have g1 : decide (n < Pl.dataN i) = true := decide_eq_true c
    go_enter Try.func31, Try.ntmps31
    go_wp2_with (first
      | (go_at_call 26; refine (right_is p i _ _ h).mono ?_; rintro e w' ⟨rfl, hb⟩; have HB := Lib.hid (plan_box w p i (by simpa using hb)); have hc1 := HB.out.1.cell 1 _ rfl; have hc0 := HB.out.1.cell 0 _ rfl; clear hb)
      | (go_at_call 27; refine (dataAt_any i _ (by omega) (by omega)).mono ?_; rintro e w2 ⟨rfl, rfl⟩))
    go_ret
    exact ⟨rfl, HB.out.2.1⟩
  · have g1 : decide (n < Pl.dataN i) = false := decide_eq_false c
    have g2 : decide (p ≤ n) = true := decide_eq_true (by omega)
    go_enter Try.func31, Try.ntmps31
    go_wp2_with (first
      | (go_at_call 26; refine (right_is p i _ _ h).mono ?_; rintro e w' ⟨rfl, hb⟩; have HB := Lib.hid (plan_box w p i (by simpa using hb)); have hc1 := HB.out.1.cell 1 _ rfl; have hc0 := HB.out.1.cell 0 _ rfl; clear hb)
      | (go_at_call 27; refine (dataAt_any i _ (by omega) (by omega)).mono ?_; rintro e w2 ⟨rfl, rfl⟩))
    go_ret
    exact ⟨rfl, HB.out.2.1⟩
set_option maxHeartbeats 400000 in
theorem bit_none (p i n : Int) (w : World) (h : Pl.rightB p i = false) :
    Calls Try.prog 31 #[planV p i, .int .i64 n] w fun e w' => e = .returned (.int .i64 (-1)) ∧ Below w.heap.size w w' := by
  unfold planV
  go_enter Try.func31, Try.ntmps31
  go_wp2_with (go_at_call 26; refine (right_is p i _ _ h).mono ?_; rintro e w' ⟨rfl, hb⟩; have HB := Lib.hid (plan_box w p i (by simpa using hb)); clear hb)
  go_ret
  exact ⟨rfl, HB.out.2.1⟩
end Go.Proofs.Ytchlhnpnenafnaa
