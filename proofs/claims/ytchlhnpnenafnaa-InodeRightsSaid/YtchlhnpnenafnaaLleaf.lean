/-
  The contracts of plan.dataAt, right, ifRight.
-/
import Derived.Test.YtchlhnpnenafnaaLmath
import Derived.Test.YtchlhnpnenafnaaLmem
namespace Go.Proofs.Ytchlhnpnenafnaa
open Go.RowKit

theorem planT : RowT 35 2 := ⟨⟨_, Try.underlying35, rfl⟩, by kernel_rfl⟩
theorem rplanT : RowT 37 3 := ⟨⟨_, Try.underlying37, rfl⟩, by kernel_rfl⟩
def planL (p i : Int) : List Value := [.int .i64 p, .int .i64 i]
theorem planL_one (p i : Int) : ∀ v ∈ planL p i, v.oneCell' = true := by
  intro v hv
  simp only [planL, List.mem_cons, List.not_mem_nil, or_false] at hv
  rcases hv with rfl | rfl <;> rfl
def planV (p i : Int) : Value := .agg #[.int .i64 p, .int .i64 i]
theorem planV_def (p i : Int) : Value.agg (planL p i).toArray = planV p i := rfl

set_option maxHeartbeats 400000 in
theorem dataAt_any (i : Int) (w : World) (h1 : 0 ≤ i) (h2 : i ≤ 1000) :
    Calls Try.prog 27 #[.int .i64 i] w fun e w' => e = .returned (.int .i64 (Pl.dataN i)) ∧ w = w' := by
  go_enter Try.func27, Try.ntmps27
  go_wp2
  go_ret
  exact ⟨ret_int (by unfold Pl.dataN; omega), rfl⟩

theorem below_drewN (N : Nat) (w : World) (m : Nat) : Below N w (w.drewN m) := ⟨rfl, rfl, rfl, Nat.le_refl _, fun _ _ => rfl⟩
set_option maxHeartbeats 1000000 in
theorem right_any (p i : Int) (w : World) :
    Calls Try.prog 26 #[planV p i] w fun e w' => e = .returned (.bool (Pl.rightB p i)) ∧ Below w.heap.size w w' := by
  have hb : Below w.heap.size w (w.alloc (.cells #[.int .i64 p, .int .i64 i] 35)) := (Below.refl _ _).alloc (Nat.le_refl _) _
  have HB := Lib.hid hb; clear hb
  unfold planV
  by_cases c1 : 1 ≤ i
  · have d1 : decide (1 ≤ i) = true := decide_eq_true c1
    by_cases c2 : i ≤ 128
    · have d2 : decide (i ≤ 128) = true := decide_eq_true c2
      by_cases c3 : p ≤ 512
      · have d3 : decide (p ≤ 512) = true := decide_eq_true c3
        have HC := Lib.hid (fun w => dataAt_any i w (by omega) (by omega))
        have HR : Hid (Pl.rightB p i = decide (Pl.dataN i < p)) := Lib.hid (by
          unfold Pl.rightB; rw [decide_eq_decide]; exact ⟨fun h => h.2.2.2, fun h => ⟨c1, c2, c3, h⟩⟩)
        rw [HR.out]
        clear c1 c2 c3
        go_enter Try.func26, Try.ntmps26
        go_wp2
        go_quiet ((go_at_call 27; refine Calls.quiet_of_same ((HC.out _).mono fun e w' h => ⟨h.1, h.2.symm⟩)))
        go_wp2
        go_ret
        exact ⟨rfl, HB.out.trans (below_drewN _ _ _)⟩
      · have HR := Lib.hid (Pl.right_not (p := p) (i := i) (by omega))
        have d3 : decide (p ≤ 512) = false := decide_eq_false c3
        rw [HR.out]
        go_enter Try.func26, Try.ntmps26
        go_wp2
        go_quiet (fail)
        go_wp2
        go_ret
        exact ⟨rfl, HB.out.trans (below_drewN _ _ _)⟩
    · have HR := Lib.hid (Pl.right_not (p := p) (i := i) (by omega))
      have d2 : decide (i ≤ 128) = false := decide_eq_false c2
      rw [HR.out]
      go_enter Try.func26, Try.ntmps26
      go_wp2
      go_quiet (fail)
      go_wp2
      go_ret
      exact ⟨rfl, HB.out.trans (below_drewN _ _ _)⟩
  · have HR := Lib.hid (Pl.right_not (p := p) (i := i) (by omega))
    have d1 : decide (1 ≤ i) = false := decide_eq_false c1
    rw [HR.out]
    go_enter Try.func26, Try.ntmps26
    go_wp2
    go_quiet (fail)
    go_wp2
    go_ret
    exact ⟨rfl, HB.out.trans (below_drewN _ _ _)⟩
theorem right_is (p i : Int) (b : Bool) (w : World) (h : Pl.rightB p i = b) :
    Calls Try.prog 26 #[planV p i] w fun e w' => e = .returned (.bool b) ∧ Below w.heap.size w w' := h ▸ right_any p i w
/-- a plan that was boxed, behind what was made besides -/
theorem plan_box (w : World) (p i : Int) {w' : World} (hb : Below (w.heap.size + 1) (w.alloc (.cells #[.int .i64 p, .int .i64 i] 35)) w') :
    RowAt w' w.heap.size (planL p i) ∧ Below w.heap.size w w' ∧ w.heap.size < w'.heap.size := by
  have h := rowAt_new w (planL p i) 35
  have hs := hb.size
  simp at hs
  exact ⟨h.below hb (by omega), ((Below.refl _ _).alloc (Nat.le_refl _) _).trans (hb.mono (by omega)), by omega⟩

end Go.Proofs.Ytchlhnpnenafnaa
