/-
  The contracts of page.inside and page.holdsNumber.
-/
import Derived.Test.YteobdjgodljjmaaQDpage
import Derived.Test.YteobdjgodljjmaaQPmath
import Derived.WalkKit
import Derived.WalkSpells
import Derived.WalkLawsBesides
import Derived.Laws.BitsAllLaws
import Derived.Lib.Hide
namespace Go.Proofs.Yteobdjgodljjmaa.Pq
open Go.RowKit


set_option maxRecDepth 100000 in
set_option maxHeartbeats 400000 in
theorem inside_any (a n : Int) (w : World) (h1 : -9223372036854775808 ≤ n) (h2 : n ≤ 9223372036854775807) :
    Calls Try.prog 42 #[.int .i64 a, .int .i64 n] w fun e w' => e = .returned (.bool (Pg.insB a n)) ∧ w = w' := by
  go_enter Try.func42, Try.ntmps42
  by_cases c1 : 0 ≤ a
  · by_cases c2 : 0 ≤ n
    · go_wp2
      go_ret
      exact ⟨ret_bool (by unfold Pg.insB; rw [decide_eq_decide]; omega), rfl⟩
    · go_wp2
      go_ret
      exact ⟨ret_bool (by unfold Pg.insB; symm; rw [decide_eq_false_iff_not]; omega), rfl⟩
  · go_wp2
    go_ret
    exact ⟨ret_bool (by unfold Pg.insB; symm; rw [decide_eq_false_iff_not]; omega), rfl⟩
set_option maxRecDepth 100000 in
theorem inside_yes (a n : Int) (w : World) (h1 : -9223372036854775808 ≤ n) (h2 : n ≤ 9223372036854775807) (h : Pg.insB a n = true) :
    Calls Try.prog 42 #[.int .i64 a, .int .i64 n] w fun e w' => e = .returned (.bool true) ∧ w = w' := h ▸ inside_any a n w h1 h2
set_option maxRecDepth 100000 in
theorem inside_no (a n : Int) (w : World) (h1 : -9223372036854775808 ≤ n) (h2 : n ≤ 9223372036854775807) (h : Pg.insB a n = false) :
    Calls Try.prog 42 #[.int .i64 a, .int .i64 n] w fun e w' => e = .returned (.bool false) ∧ w = w' := h ▸ inside_any a n w h1 h2

set_option maxRecDepth 100000 in
set_option maxHeartbeats 400000 in
theorem holds_yes (a n : Int) (w : World) (h : Pg.numB a n = true) :
    Calls Try.prog 41 #[.int .i64 a, .int .i64 n] w fun e w' => e = .returned (.bool true) ∧ w = w' := by
  obtain ⟨c1, c2, c3, c4⟩ := Pg.num_yes h
  have HI := Lib.hid (Pg.ins_mk c3 (show 0 ≤ n by omega) c4)
  clear h
  go_enter Try.func41, Try.ntmps41
  go_wp2_with (go_at_call 42; refine (inside_yes _ _ _ (by omega) (by omega) HI.out).mono ?_; rintro e w' ⟨rfl, rfl⟩)
  go_ret
  exact ⟨rfl, rfl⟩
set_option maxRecDepth 100000 in
set_option maxHeartbeats 400000 in
theorem holds_no (a n : Int) (w : World) (h1 : -9223372036854775808 ≤ n) (h2 : n ≤ 9223372036854775807) (h : Pg.numB a n = false) :
    Calls Try.prog 41 #[.int .i64 a, .int .i64 n] w fun e w' => e = .returned (.bool false) ∧ w = w' := by
  have hn := Pg.num_no h
  clear h
  by_cases c1 : 1 ≤ n
  · by_cases c2 : n ≤ 4
    · have HI : Hid (Pg.insB a n = false) := Lib.hid (by unfold Pg.insB; rw [decide_eq_false_iff_not]; omega)
      clear hn
      go_enter Try.func41, Try.ntmps41
      go_wp2_with (go_at_call 42; refine (inside_no _ _ _ (by omega) (by omega) HI.out).mono ?_; rintro e w' ⟨rfl, rfl⟩)
      go_ret
      exact ⟨rfl, rfl⟩
    · clear hn
      go_enter Try.func41, Try.ntmps41
      go_wp2
      go_ret
      exact ⟨rfl, rfl⟩
  · clear hn
    go_enter Try.func41, Try.ntmps41
    go_wp2
    go_ret
    exact ⟨rfl, rfl⟩

end Go.Proofs.Yteobdjgodljjmaa.Pq
