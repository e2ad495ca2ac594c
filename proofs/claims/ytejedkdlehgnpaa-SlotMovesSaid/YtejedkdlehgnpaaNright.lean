/-
  The contracts of slot.Right, isThere, mayStand and of the document's own Right.
-/
import Derived.Test.YtejedkdlehgnpaaNchk
namespace Go.Proofs.Ytejedkdlehgnpaa
open Go.RowKit

/-- an entry's value -/
def entL (n : Int) (s : ByteArray) : List Value := [.int .i64 n, .string s]
def entV (n : Int) (s : ByteArray) : Value := .agg #[.int .i64 n, .string s]
theorem entL_one (n : Int) (s : ByteArray) : ∀ v ∈ entL n s, v.oneCell' = true := by
  intro v hv
  simp only [entL, List.mem_cons, List.not_mem_nil, or_false] at hv
  rcases hv with rfl | rfl <;> rfl
theorem entT : RowT 23 2 := ⟨⟨_, Try.underlying23, rfl⟩, by kernel_rfl⟩
theorem rentT : RowT 30 2 := ⟨⟨_, Try.underlying30, rfl⟩, by kernel_rfl⟩

theorem right_eq (n : Int) (s : List UInt8) (h1 : 1 ≤ n) (h2 : n ≤ 65535) : Nm.rightB n s = (Nm.chk s == 0) := by
  unfold Nm.rightB
  cases h : (Nm.chk s == 0) with
  | true => exact decide_eq_true ⟨h1, h2, beq_iff_eq.1 h⟩
  | false => exact decide_eq_false (fun k => beq_eq_false_iff_ne.1 h k.2.2)
theorem right_low (n : Int) (s : List UInt8) (h : n < 1 ∨ 65535 < n) : Nm.rightB n s = false := decide_eq_false (by omega)

set_option maxHeartbeats 1000000 in
theorem right_any (n : Int) (s : ByteArray) (w : World) (hm : s.size ≤ maxLen) :
    Calls Try.prog 11 #[entV n s] w fun e w' => e = .returned (.bool (Nm.rightB n s.data.toList)) ∧ Below w.heap.size w w' := by
  have HM := Lib.hid hm
  clear hm
  have HB : Hid (Below w.heap.size w (w.alloc (.cells (entL n s).toArray 23))) := Lib.hid ((Below.refl _ _).alloc (Nat.le_refl _) _)
  by_cases h1 : 1 ≤ n
  · by_cases h2 : n ≤ 65535
    · rw [right_eq n _ h1 h2]
      have HC := Lib.hid (fun (w : World) => check_any s w HM.out)
      generalize Nm.chk s.data.toList = c at HC ⊢
      unfold entV
      cases hc : (c == 0) with
      | true =>
        go_enter Try.func11, Try.ntmps11
        go_wp2_with (go_at_call 9; refine (HC.out _).mono ?_; rintro e w1 ⟨rfl, hw⟩; have HW := Lib.hid hw; clear hw)
        go_ret
        exact ⟨rfl, HB.out.trans (HW.out.mono HB.out.size)⟩
      | false =>
        go_enter Try.func11, Try.ntmps11
        go_wp2_with (go_at_call 9; refine (HC.out _).mono ?_; rintro e w1 ⟨rfl, hw⟩; have HW := Lib.hid hw; clear hw)
        go_ret
        exact ⟨rfl, HB.out.trans (HW.out.mono HB.out.size)⟩
    · rw [right_low n _ (by omega)]
      unfold entV
      go_enter Try.func11, Try.ntmps11
      go_wp2
      go_ret
      exact ⟨rfl, HB.out⟩
  · rw [right_low n _ (by omega)]
    unfold entV
    go_enter Try.func11, Try.ntmps11
    go_wp2
    go_ret
    exact ⟨rfl, HB.out⟩
set_option maxHeartbeats 1000000 in
theorem refRight_any (n : Int) (s : ByteArray) (w : World) (hm : s.size ≤ maxLen) :
    Calls Try.prog 12 #[entV n s] w fun e w' => e = .returned (.bool (Nm.rightB n s.data.toList)) ∧ Below w.heap.size w w' := by
  have HM := Lib.hid hm
  clear hm
  have HB : Hid (Below w.heap.size w (w.alloc (.cells (entL n s).toArray 30))) := Lib.hid ((Below.refl _ _).alloc (Nat.le_refl _) _)
  by_cases h1 : 0 < n
  · by_cases h2 : n < 65536
    · rw [right_eq n _ (by omega) (by omega)]
      have HC := Lib.hid (fun (w : World) => refCheck_any s w HM.out)
      generalize Nm.chk s.data.toList = c at HC ⊢
      unfold entV
      cases hc : (c == 0) with
      | true =>
        go_enter Try.func12, Try.ntmps12
        go_wp2_with (go_at_call 10; refine (HC.out _).mono ?_; rintro e w1 ⟨rfl, hw⟩; have HW := Lib.hid hw; clear hw)
        go_ret
        exact ⟨rfl, HB.out.trans (HW.out.mono HB.out.size)⟩
      | false =>
        go_enter Try.func12, Try.ntmps12
        go_wp2_with (go_at_call 10; refine (HC.out _).mono ?_; rintro e w1 ⟨rfl, hw⟩; have HW := Lib.hid hw; clear hw)
        go_ret
        exact ⟨rfl, HB.out.trans (HW.out.mono HB.out.size)⟩
    · rw [right_low n _ (by omega)]
      unfold entV
      go_enter Try.func12, Try.ntmps12
      go_wp2
      go_ret
      exact ⟨rfl, HB.out⟩
  · rw [right_low n _ (by omega)]
    unfold entV
    go_enter Try.func12, Try.ntmps12
    go_wp2
    go_ret
    exact ⟨rfl, HB.out⟩

def thereB (i : Int) : Bool := decide (0 ≤ i ∧ i < 4)
set_option maxHeartbeats 400000 in
theorem isThere_any (i : Int) (w : World) : Calls Try.prog 20 #[.int .i64 i] w fun e w' => e = .returned (.bool (thereB i)) ∧ w = w' := by
  by_cases h1 : 0 ≤ i
  · by_cases h2 : i < 4
    · rw [show thereB i = true from decide_eq_true ⟨h1, h2⟩]
      go_enter Try.func20, Try.ntmps20
      go_wp2
      go_ret
      exact ⟨rfl, rfl⟩
    · rw [show thereB i = false from decide_eq_false (by omega)]
      go_enter Try.func20, Try.ntmps20
      go_wp2
      go_ret
      exact ⟨rfl, rfl⟩
  · rw [show thereB i = false from decide_eq_false (by omega)]
    go_enter Try.func20, Try.ntmps20
    go_wp2
    go_ret
    exact ⟨rfl, rfl⟩

/-- an entry held against another -/
theorem run_ents (t : TypeId) (ht : t = 23 ∨ t = 30) (n m : Int) (s r : ByteArray) (w : World) : (Op.equalIn 10000 t (entV n s) (entV m r)).run Try.prog w = .ok (n == m && s.toList == r.toList) w := by
  unfold entV
  rcases ht with rfl | rfl <;> cases h : (n == m) <;> cases k : (s.toList == r.toList) <;> go_simp
set_option maxHeartbeats 1000000 in
theorem stand_any (n : Int) (s : ByteArray) (w : World) (hm : s.size ≤ maxLen) :
    Calls Try.prog 21 #[entV n s] w fun e w' => e = .returned (.bool (Nm.standB n s.data.toList)) ∧ Below w.heap.size w w' := by
  have HM := Lib.hid hm
  clear hm
  have HB : Hid (Below w.heap.size w (w.alloc (.cells (entL n s).toArray 23))) := Lib.hid ((Below.refl _ _).alloc (Nat.le_refl _) _)
  have HR := Lib.hid (fun (w : World) => right_any n s w HM.out)
  by_cases hn : n = 0
  · subst hn
    by_cases hs : s.toList = []
    · rw [show Nm.standB 0 s.data.toList = true by rw [← Lib.toList_data, hs]; rfl]
      unfold entV
      go_enter Try.func21, Try.ntmps21
      go_wp2
      go_ret
      exact ⟨rfl, HB.out⟩
    · rw [show Nm.standB 0 s.data.toList = Nm.rightB 0 s.data.toList by
        unfold Nm.standB Nm.zeroB
        rw [decide_eq_false (fun h => hs (by rw [Lib.toList_data]; exact h.2)), Bool.false_or]]
      change Hid (∀ w, Calls Try.prog _ #[.agg #[.int .i64 0, .string s]] w _) at HR
      unfold entV
      go_enter Try.func21, Try.ntmps21
      go_wp2_with (go_at_call 11; refine (HR.out _).mono ?_; rintro e w1 ⟨rfl, hw⟩; have HW := Lib.hid hw; clear hw)
      go_ret
      exact ⟨rfl, HB.out.trans (HW.out.mono HB.out.size)⟩
  · rw [show Nm.standB n s.data.toList = Nm.rightB n s.data.toList by
      unfold Nm.standB Nm.zeroB
      rw [decide_eq_false (fun h => hn h.1), Bool.false_or]]
    change Hid (∀ w, Calls Try.prog _ #[.agg #[.int .i64 n, .string s]] w _) at HR
    unfold entV
    go_enter Try.func21, Try.ntmps21
    go_wp2_with (go_at_call 11; refine (HR.out _).mono ?_; rintro e w1 ⟨rfl, hw⟩; have HW := Lib.hid hw; clear hw)
    go_ret
    exact ⟨rfl, HB.out.trans (HW.out.mono HB.out.size)⟩
end Go.Proofs.Ytejedkdlehgnpaa
