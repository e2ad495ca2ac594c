/-
  The contracts of inode.isThere, upTo, numberRight and of the document's own page.
-/
import Derived.Test.YtchlhnpnenafnaaImem
import Derived.Test.YtchlhnpnenafnaaLmeth
import Derived.Test.YtchlhnpnenafnaaLref
namespace Go.Proofs.Ytchlhnpnenafnaa
open Go.RowKit
open Ii (Ino)

set_option maxHeartbeats 400000 in
theorem isThere_yes (h : Int) (w : World) (h0 : 0 ≤ h) (h1 : h < 2) : Calls Try.prog 15 #[.int .i64 h] w fun e w' => e = .returned (.bool true) ∧ w = w' := by
  have g0 : decide (0 ≤ h) = true := decide_eq_true h0
  have g1 : decide (h < 2) = true := decide_eq_true h1
  go_enter Try.func15, Try.ntmps15
  go_wp2
  go_ret
  exact ⟨rfl, rfl⟩
set_option maxHeartbeats 400000 in
theorem isThere_no (h : Int) (w : World) (h0 : h < 0 ∨ 2 ≤ h) : Calls Try.prog 15 #[.int .i64 h] w fun e w' => e = .returned (.bool false) ∧ w = w' := by
  by_cases c : 0 ≤ h
  · have g0 : decide (0 ≤ h) = true := decide_eq_true c
    have g1 : decide (h < 2) = false := decide_eq_false (by omega)
    clear h0
    go_enter Try.func15, Try.ntmps15
    go_wp2
    go_ret
    exact ⟨rfl, rfl⟩
  · have g0 : decide (0 ≤ h) = false := decide_eq_false c
    clear h0
    go_enter Try.func15, Try.ntmps15
    go_wp2
    go_ret
    exact ⟨rfl, rfl⟩
set_option maxHeartbeats 400000 in
theorem upTo_any (m n : Int) (w : World) : Calls Try.prog 28 #[.int .i64 m, .int .i64 n] w fun e w' => e = .returned (.bool (decide (0 ≤ n ∧ n ≤ m))) ∧ w = w' := by
  by_cases c : 0 ≤ n
  · have g0 : decide (0 ≤ n) = true := decide_eq_true c
    have HE : Hid (decide (0 ≤ n ∧ n ≤ m) = decide (n ≤ m)) := Lib.hid (by rw [decide_eq_decide]; exact ⟨fun h => h.2, fun h => ⟨c, h⟩⟩)
    rw [HE.out]
    clear c
    go_enter Try.func28, Try.ntmps28
    go_wp2
    go_ret
    exact ⟨rfl, rfl⟩
  · have g0 : decide (0 ≤ n) = false := decide_eq_false c
    have HE : Hid (decide (0 ≤ n ∧ n ≤ m) = false) := Lib.hid (decide_eq_false fun h => c h.1)
    rw [HE.out]
    clear c
    go_enter Try.func28, Try.ntmps28
    go_wp2
    go_ret
    exact ⟨rfl, rfl⟩
/-- 0, or a data page -/
theorem bit_any (p i n : Int) (w : World) (h : Pl.rightB p i = true) :
    Calls Try.prog 31 #[planV p i, .int .i64 n] w fun e w' => e = .returned (.int .i64 (if Pl.dataN i ≤ n ∧ n < p then n - Pl.dataN i else -1)) ∧ Below w.heap.size w w' := by
  by_cases c : Pl.dataN i ≤ n ∧ n < p
  · rw [if_pos c]; exact bit_yes p i n w h c.1 c.2
  · rw [if_neg c]; exact bit_no p i n w h (by omega)
set_option maxHeartbeats 400000 in
theorem numberRight_any (p i n : Int) (w : World) (h : Pl.rightB p i = true) :
    Calls Try.prog 29 #[.int .i64 n, planV p i] w fun e w' => e = .returned (.bool (Ii.numB p i n)) ∧ Below w.heap.size w w' := by
  have HB := Lib.hid (fun w => bit_any p i n w h)
  clear h
  by_cases c : n = 0
  · have HE : Hid (Ii.numB p i n = true) := Lib.hid (decide_eq_true (Or.inl c))
    have g0 : (n == 0) = true := by simpa using c
    rw [HE.out]
    clear c HB
    unfold planV
    go_enter Try.func29, Try.ntmps29
    go_wp2
    go_ret
    exact ⟨rfl, (Below.refl _ _).alloc (Nat.le_refl _) _⟩
  · have g0 : (n == 0) = false := by simpa using c
    by_cases d : Pl.dataN i ≤ n ∧ n < p
    · have HE : Hid (Ii.numB p i n = true) := Lib.hid (decide_eq_true (Or.inr d))
      rw [HE.out]
      rw [if_pos d] at HB
      have d0 : 0 ≤ n - Pl.dataN i := by omega
      clear c d
      generalize n - Pl.dataN i = r at HB d0
      unfold planV at HB ⊢
      go_enter Try.func29, Try.ntmps29
      go_wp2_with (go_at_call 31; refine (HB.out _).mono ?_; rintro e w' ⟨rfl, hb⟩)
      go_ret
      exact ⟨rfl, ((Below.refl _ _).alloc (Nat.le_refl _) _).trans (hb.mono (by simp))⟩
    · have HE : Hid (Ii.numB p i n = false) := Lib.hid (decide_eq_false fun h => by rcases h with h | h; exact c h; exact d h)
      rw [HE.out]
      rw [if_neg d] at HB
      clear c d
      unfold planV at HB ⊢
      go_enter Try.func29, Try.ntmps29
      go_wp2_with (go_at_call 31; refine (HB.out _).mono ?_; rintro e w' ⟨rfl, hb⟩)
      go_ret
      exact ⟨rfl, ((Below.refl _ _).alloc (Nat.le_refl _) _).trans (hb.mono (by simp))⟩
set_option maxHeartbeats 400000 in
theorem refpage_any (p i n : Int) (w : World) :
    Calls Try.prog 20 #[.int .i64 n, rplanV p i (Pl.dataN i)] w fun e w' => e = .returned (.bool (Ii.numB p i n)) ∧ Below w.heap.size w w' := by
  unfold Ii.numB rplanV
  generalize Pl.dataN i = D
  by_cases c : n = 0
  · have HE : Hid (decide (n = 0 ∨ (D ≤ n ∧ n < p)) = true) := Lib.hid (decide_eq_true (Or.inl c))
    have g0 : (n == 0) = true := by simpa using c
    rw [HE.out]
    clear c
    go_enter Try.func20, Try.ntmps20
    go_wp2
    go_ret
    exact ⟨rfl, (Below.refl _ _).alloc (Nat.le_refl _) _⟩
  · have g0 : (n == 0) = false := by simpa using c
    by_cases d : D ≤ n
    · have g1 : decide (D ≤ n) = true := decide_eq_true d
      have HE : Hid (decide (n = 0 ∨ (D ≤ n ∧ n < p)) = decide (n < p)) := Lib.hid (by rw [decide_eq_decide]; omega)
      rw [HE.out]
      clear c d
      go_enter Try.func20, Try.ntmps20
      go_wp2
      go_ret
      exact ⟨rfl, (Below.refl _ _).alloc (Nat.le_refl _) _⟩
    · have g1 : decide (D ≤ n) = false := decide_eq_false d
      have HE : Hid (decide (n = 0 ∨ (D ≤ n ∧ n < p)) = false) := Lib.hid (decide_eq_false (by omega))
      rw [HE.out]
      clear c d
      go_enter Try.func20, Try.ntmps20
      go_wp2
      go_ret
      exact ⟨rfl, (Below.refl _ _).alloc (Nat.le_refl _) _⟩
end Go.Proofs.Ytchlhnpnenafnaa
