/-
  hook's own tables, and the document's: which fields a hook has, which helpers it may call.
-/
import Derived.Test.YthccgfnoolbiiaaAbase
namespace Go.Proofs.Ythccgfnoolbiiaa
open Go.RowKit Go.Maps

namespace Hk
def knownF (h : Int) : Bool := decide (1 ≤ h) && decide (h ≤ 8)
def inF (h : Int) : Int := if h = 1 then 4 else if h = 2 then 10 else if h = 3 then 1 else if h = 4 then 7 else if h = 5 then 3 else if h = 6 then 7 else if h = 7 then 6 else if h = 8 then 5 else 0
def outF (h : Int) : Int := if h = 1 then 6 else if h = 3 then 5 else if h = 5 then 3 else 0
def toldF (h : Int) : Bool := decide (h = 2) || decide (h = 4) || decide (h = 6) || decide (h = 7)
def argsF (h k : Int) : Int := if knownF h = false then 0 else if k = 1 then 2 else if k = 2 then 1 else if k = 3 then (if toldF h then 4 else 0) else if k = 4 then (if toldF h then 2 else 0) else 0
def chgF (k : Int) : Bool := decide (k = 3) || decide (k = 4)
end Hk
open Hk
set_option maxHeartbeats 1000000 in
theorem known_any (h : Int) (w : World) : Calls Try.prog 10 #[.int .i64 h] w fun e w' => e = .returned (.bool (knownF h)) ∧ w = w' := by
  go_enter Try.func10, Try.ntmps10
  by_cases c1 : 1 ≤ h
  · by_cases c2 : h ≤ 8
    · go_wp2
      go_ret
      exact ⟨ret_bool (by unfold knownF; first | (simp [*]; done) | (simp [*]; omega)), rfl⟩
    · go_wp2
      go_ret
      exact ⟨ret_bool (by unfold knownF; first | (simp [*]; done) | (simp [*]; omega)), rfl⟩
  · go_wp2
    go_ret
    exact ⟨ret_bool (by unfold knownF; first | (simp [*]; done) | (simp [*]; omega)), rfl⟩
set_option maxHeartbeats 1000000 in
theorem in_any (h : Int) (w : World) : Calls Try.prog 11 #[.int .i64 h] w fun e w' => e = .returned (.int .i64 (inF h)) ∧ w = w' := by
  go_enter Try.func11, Try.ntmps11
  go_wp2
  all_goals
    go_ret
    refine ⟨ret_int ?_, rfl⟩
    simp only [beq_iff_eq, beq_eq_false_iff_ne, ne_eq] at *
    unfold inF
    simp [*]
set_option maxHeartbeats 1000000 in
theorem out_any (h : Int) (w : World) : Calls Try.prog 13 #[.int .i64 h] w fun e w' => e = .returned (.int .i64 (outF h)) ∧ w = w' := by
  go_enter Try.func13, Try.ntmps13
  go_wp2
  all_goals
    go_ret
    refine ⟨ret_int ?_, rfl⟩
    simp only [beq_iff_eq, beq_eq_false_iff_ne, ne_eq] at *
    unfold outF
    simp [*]
set_option maxHeartbeats 1000000 in
theorem rout_any (h : Int) (w : World) : Calls Try.prog 14 #[.int .i64 h] w fun e w' => e = .returned (.int .i64 (outF h)) ∧ w = w' := by
  go_enter Try.func14, Try.ntmps14
  go_wp2
  all_goals
    go_ret
    refine ⟨ret_int ?_, rfl⟩
    simp only [beq_iff_eq, beq_eq_false_iff_ne, ne_eq] at *
    unfold outF
    simp [*]
set_option maxHeartbeats 1000000 in
theorem told_any (h : Int) (w : World) : Calls Try.prog 15 #[.int .i64 h] w fun e w' => e = .returned (.bool (toldF h)) ∧ w = w' := by
  go_enter Try.func15, Try.ntmps15
  go_wp2
  all_goals
    go_ret
    refine ⟨ret_bool ?_, rfl⟩
    simp only [beq_iff_eq, beq_eq_false_iff_ne, ne_eq] at *
    unfold toldF
    simp [*]
set_option maxHeartbeats 2000000 in
theorem rtold_any (h : Int) (w : World) : Calls Try.prog 16 #[.int .i64 h] w fun e w' => e = .returned (.bool (toldF h)) ∧ w = w' := by
  go_enter Try.func16, Try.ntmps16
  by_cases c2 : h = 2
  · go_wp2
    go_ret
    exact ⟨ret_bool (by unfold toldF; simp [*]), rfl⟩
  · by_cases c4 : h = 4
    · go_wp2
      go_ret
      exact ⟨ret_bool (by unfold toldF; simp [*]), rfl⟩
    · by_cases c6 : h = 6
      · go_wp2
        go_ret
        exact ⟨ret_bool (by unfold toldF; simp [*]), rfl⟩
      · by_cases c7 : h = 7
        · go_wp2
          go_ret
          exact ⟨ret_bool (by unfold toldF; simp [*]), rfl⟩
        · go_wp2
          go_ret
          exact ⟨ret_bool (by unfold toldF; simp [*]), rfl⟩
set_option maxHeartbeats 1000000 in
theorem chg_any (k : Int) (w : World) : Calls Try.prog 22 #[.int .i64 k] w fun e w' => e = .returned (.bool (chgF k)) ∧ w = w' := by
  go_enter Try.func22, Try.ntmps22
  by_cases c2 : k = 3
  · go_wp2
    go_ret
    exact ⟨ret_bool (by unfold chgF; simp [*]), rfl⟩
  · by_cases c4 : k = 4
    · go_wp2
      go_ret
      exact ⟨ret_bool (by unfold chgF; simp [*]), rfl⟩
    · go_wp2
      go_ret
      exact ⟨ret_bool (by unfold chgF; simp [*]), rfl⟩
set_option maxHeartbeats 2000000 in
theorem rin_any (h : Int) (w : World) : Calls Try.prog 12 #[.int .i64 h] w fun e w' => e = .returned (.int .i64 (inF h)) ∧ Below w.heap.size w w' := by
  have hb : Below w.heap.size w (w.alloc (.cells #[.int .i64 0, .int .i64 4, .int .i64 10, .int .i64 1, .int .i64 7, .int .i64 3, .int .i64 7, .int .i64 6, .int .i64 5] 3)) := (Below.refl _ _).alloc (Nat.le_refl _) _
  have HB := Lib.hid hb
  clear hb
  by_cases c : 1 ≤ h ∧ h ≤ 8
  · obtain ⟨k, rfl⟩ : ∃ k : Nat, h = (k : Int) := ⟨h.toNat, by omega⟩
    obtain ⟨c1, c2⟩ := c
    have HC : ∀ v, (#[.int .i64 0, .int .i64 4, .int .i64 10, .int .i64 1, .int .i64 7, .int .i64 3, .int .i64 7, .int .i64 6, .int .i64 5] : Array Value)[k]? = some v → (w.alloc (.cells #[.int .i64 0, .int .i64 4, .int .i64 10, .int .i64 1, .int .i64 7, .int .i64 3, .int .i64 7, .int .i64 6, .int .i64 5] 3)).cell? ⟨w.heap.size, k, none⟩ = some v := fun v hv => by
      have := cell_new w [.int .i64 0, .int .i64 4, .int .i64 10, .int .i64 1, .int .i64 7, .int .i64 3, .int .i64 7, .int .i64 6, .int .i64 5] 3 k v (by simpa using hv)
      rw [Addr.add_mid, Nat.zero_add] at this
      exact this
    have hk : k = 1 ∨ k = 2 ∨ k = 3 ∨ k = 4 ∨ k = 5 ∨ k = 6 ∨ k = 7 ∨ k = 8 := by omega
    rcases hk with rfl | rfl | rfl | rfl | rfl | rfl | rfl | rfl <;>
    · have hc := HC _ rfl
      go_enter Try.func12, Try.ntmps12
      go_wp2
      go_ret
      exact ⟨rfl, HB.out⟩
  · have hz : inF h = 0 := by unfold inF; repeat (rw [if_neg (by omega)])
    rw [hz]
    clear hz
    go_enter Try.func12, Try.ntmps12
    by_cases c1 : h < 1
    · go_wp2
      go_ret
      exact ⟨rfl, HB.out⟩
    · have c2 : 8 < h := by omega
      go_wp2
      go_ret
      exact ⟨rfl, HB.out⟩
set_option maxHeartbeats 4000000 in
theorem args_any (h k : Int) (w : World) : Calls Try.prog 8 #[.int .i64 h, .int .i64 k] w fun e w' => e = .returned (.tuple #[.int .i64 (argsF h k), .bool (decide (argsF h k > 0))]) ∧ w = w' := by
  go_enter Try.func8, Try.ntmps8
  cases hk : knownF h
  · go_wp2_with (go_at_call 10; refine (known_any h _).mono ?_; rintro e w' ⟨rfl, rfl⟩; rw [hk])
    go_ret2
    exact ⟨by simp [argsF, hk], rfl⟩
  · cases hc : chgF k
    · go_wp2_with (first | (go_at_call 10; refine (known_any h _).mono ?_; rintro e w' ⟨rfl, rfl⟩; rw [hk]) | (go_at_call 22; refine (chg_any k _).mono ?_; rintro e w' ⟨rfl, rfl⟩; rw [hc]))
      all_goals
        go_ret2
        refine ⟨?_, rfl⟩
        simp only [beq_iff_eq, beq_eq_false_iff_ne, ne_eq, chgF, Bool.or_eq_false_iff, decide_eq_false_iff_not] at *
        first
          | (exfalso; omega)
          | (simp [argsF, *]; done)
    · cases ht : toldF h
      · go_wp2_with (first | (go_at_call 10; refine (known_any h _).mono ?_; rintro e w' ⟨rfl, rfl⟩; rw [hk]) | (go_at_call 22; refine (chg_any k _).mono ?_; rintro e w' ⟨rfl, rfl⟩; rw [hc]) | (go_at_call 15; refine (told_any h _).mono ?_; rintro e w' ⟨rfl, rfl⟩; rw [ht]))
        go_ret2
        refine ⟨?_, rfl⟩
        have : k = 3 ∨ k = 4 := by simpa [chgF] using hc
        rcases this with rfl | rfl <;> simp [argsF, hk, ht]
      · have : k = 3 ∨ k = 4 := by simpa [chgF] using hc
        rcases this with rfl | rfl <;>
        · go_wp2_with (first | (go_at_call 10; refine (known_any h _).mono ?_; rintro e w' ⟨rfl, rfl⟩; rw [hk]) | (go_at_call 22; refine (chg_any _ _).mono ?_; rintro e w' ⟨rfl, rfl⟩; rw [hc]) | (go_at_call 15; refine (told_any h _).mono ?_; rintro e w' ⟨rfl, rfl⟩; rw [ht]))
          go_ret2
          refine ⟨?_, rfl⟩
          simp [argsF, hk, ht]
set_option maxHeartbeats 4000000 in
theorem rargs_any (h k : Int) (w : World) : Calls Try.prog 9 #[.int .i64 h, .int .i64 k] w fun e w' => e = .returned (.int .i64 (argsF h k)) ∧ w = w' := by
  go_enter Try.func9, Try.ntmps9
  by_cases c1 : h < 1
  · have hk : knownF h = false := by unfold knownF; simp; omega
    go_wp2
    go_ret
    exact ⟨by simp [argsF, hk], rfl⟩
  · by_cases c2 : 8 < h
    · have hk : knownF h = false := by unfold knownF; simp; omega
      go_wp2
      go_ret
      exact ⟨by simp [argsF, hk], rfl⟩
    · have hk : knownF h = true := by unfold knownF; simp; omega
      by_cases e3 : k = 3
      · subst e3
        cases ht : toldF h <;>
        · go_wp2_with (go_at_call 16; refine (rtold_any h _).mono ?_; rintro e w' ⟨rfl, rfl⟩; rw [ht])
          go_ret
          exact ⟨by simp [argsF, hk, ht], rfl⟩
      · by_cases e4 : k = 4
        · subst e4
          cases ht : toldF h <;>
          · go_wp2_with (go_at_call 16; refine (rtold_any h _).mono ?_; rintro e w' ⟨rfl, rfl⟩; rw [ht])
            go_ret
            exact ⟨by simp [argsF, hk, ht], rfl⟩
        · go_wp2
          all_goals
            go_ret
            refine ⟨ret_int ?_, rfl⟩
            simp only [beq_iff_eq, beq_eq_false_iff_ne, ne_eq] at *
            simp [argsF, *]
end Go.Proofs.Ythccgfnoolbiiaa
