/-
  The contracts of slot.Check and of the document's own Check.
-/
import Derived.Test.YtejedkdlehgnpaaNany
import Derived.Lib.FieldsLaws
namespace Go.Proofs.Ytejedkdlehgnpaa
open Go.RowKit

theorem empty_list (s : ByteArray) : s.toList.isEmpty = decide (s.size = 0) := by
  rw [Lib.toList_data, ← size_list]
  cases s.data.toList <;> rfl
/-- what the walk parts on, and what is wrong with the name then -/
structure ChkF (s : ByteArray) : Prop where
  e0 : s.toList.isEmpty = false
  e1 : (s.toList == [46]) = false
  e2 : (s.toList == [46, 46]) = false
  c : Nm.chk s.data.toList = if Nm.badB s.data.toList = true then 22 else 0
theorem chk_far (s : ByteArray) (h : 13 < s.size) : Nm.chk s.data.toList = 36 := by
  unfold Nm.chk
  rw [size_list, if_neg (by omega), if_pos h]
theorem chk_none (s : ByteArray) (h : s.size = 0) : Nm.chk s.data.toList = 2 := by
  unfold Nm.chk
  rw [size_list, if_pos h]
theorem chk_dot (s : ByteArray) (h0 : s.size ≠ 0) (h : s.size ≤ 13) (h1 : s.data.toList = [46] ∨ s.data.toList = [46, 46]) : Nm.chk s.data.toList = 22 := by
  unfold Nm.chk
  rw [size_list, if_neg h0, if_neg (by omega), if_pos (h1.elim Or.inl (fun h => Or.inr (Or.inl h)))]
theorem chk_rest (s : ByteArray) (h0 : s.size ≠ 0) (h : s.size ≤ 13) (h1 : s.data.toList ≠ [46]) (h2 : s.data.toList ≠ [46, 46]) : ChkF s where
  e0 := by rw [empty_list]; exact decide_eq_false h0
  e1 := by rw [Lib.toList_data]; exact beq_eq_false_iff_ne.2 h1
  e2 := by rw [Lib.toList_data]; exact beq_eq_false_iff_ne.2 h2
  c := by
    unfold Nm.chk
    rw [size_list, if_neg h0, if_neg (by omega)]
    cases Nm.badB s.data.toList <;> simp [h1, h2]

set_option maxHeartbeats 1000000 in
theorem check_any (s : ByteArray) (w : World) (hm : s.size ≤ maxLen) :
    Calls Try.prog 9 #[.string s] w fun e w' => e = .returned (.int .i64 (Nm.chk s.data.toList)) ∧ Below w.heap.size w w' := by
  unfold maxLen at hm
  by_cases h0 : s.size = 0
  · have e0 : s.toList.isEmpty = true := by rw [empty_list]; exact decide_eq_true h0
    rw [chk_none s h0]
    clear h0
    go_enter Try.func9, Try.ntmps9
    go_wp2
    go_ret
    exact ⟨rfl, Below.refl _ _⟩
  have e0 : s.toList.isEmpty = false := by rw [empty_list]; exact decide_eq_false h0
  by_cases h13 : 13 < s.size
  · rw [chk_far s h13]
    have hI : (13 : Int) < (s.size : Int) := by omega
    go_enter Try.func9, Try.ntmps9
    go_wp2
    go_ret
    exact ⟨rfl, Below.refl _ _⟩
  have hI : (s.size : Int) ≤ 13 := by omega
  have HS : Hid (s.size ≤ 13) := Lib.hid (by omega)
  by_cases h1 : s.data.toList = [46]
  · rw [chk_dot s h0 (by omega) (Or.inl h1)]
    have e1 : (s.toList == [46]) = true := by rw [Lib.toList_data, h1]; rfl
    clear h1 h0 h13
    go_enter Try.func9, Try.ntmps9
    go_wp2
    go_ret
    exact ⟨rfl, Below.refl _ _⟩
  by_cases h2 : s.data.toList = [46, 46]
  · rw [chk_dot s h0 (by omega) (Or.inr h2)]
    have e1 : (s.toList == [46]) = false := by rw [Lib.toList_data, h2]; rfl
    have e2 : (s.toList == [46, 46]) = true := by rw [Lib.toList_data, h2]; rfl
    clear h1 h2 h0 h13
    go_enter Try.func9, Try.ntmps9
    go_wp2
    go_ret
    exact ⟨rfl, Below.refl _ _⟩
  obtain ⟨e0', e1, e2, hc⟩ := chk_rest s h0 (by omega) h1 h2
  rw [hc]
  clear e0' hc h1 h2 h0 h13
  cases hb : Nm.badB s.data.toList with
  | true =>
    have HB := Lib.hid hb
    clear hb
    go_enter Try.func9, Try.ntmps9
    go_wp2_with (go_at_call 19; refine (contains_any _ _ HS.out).mono ?_; rw [HB.out]; rintro e w1 ⟨rfl, hw⟩; have HW := Lib.hid hw; clear hw)
    go_ret
    exact ⟨rfl, HW.out⟩
  | false =>
    have HB := Lib.hid hb
    clear hb
    go_enter Try.func9, Try.ntmps9
    go_wp2_with (go_at_call 19; refine (contains_any _ _ HS.out).mono ?_; rw [HB.out]; rintro e w1 ⟨rfl, hw⟩; have HW := Lib.hid hw; clear hw)
    go_ret
    exact ⟨rfl, HW.out⟩

/-! ### the document's own -/
set_option maxHeartbeats 1000000 in
theorem refCheck_any (s : ByteArray) (w : World) (hm : s.size ≤ maxLen) :
    Calls Try.prog 10 #[.string s] w fun e w' => e = .returned (.int .i64 (Nm.chk s.data.toList)) ∧ Below w.heap.size w w' := by
  unfold maxLen at hm
  by_cases h0 : s.size = 0
  · have e0 : ((s.size : Int) == 0) = true := by rw [h0]; rfl
    rw [chk_none s h0]
    clear h0
    go_enter Try.func10, Try.ntmps10
    go_wp2
    go_ret
    exact ⟨rfl, Below.refl _ _⟩
  have e0 : ((s.size : Int) == 0) = false := beq_eq_false_iff_ne.2 (by omega)
  by_cases h13 : 13 < s.size
  · rw [chk_far s h13]
    have hI : (13 : Int) < (s.size : Int) := by omega
    go_enter Try.func10, Try.ntmps10
    go_wp2
    go_ret
    exact ⟨rfl, Below.refl _ _⟩
  have hI : (s.size : Int) ≤ 13 := by omega
  have HS : Hid (s.size ≤ 13) := Lib.hid (by omega)
  by_cases h1 : s.data.toList = [46]
  · rw [chk_dot s h0 (by omega) (Or.inl h1)]
    have e1 : (s.toList == [46]) = true := by rw [Lib.toList_data, h1]; rfl
    clear h1 h0 h13
    go_enter Try.func10, Try.ntmps10
    go_wp2
    go_ret
    exact ⟨rfl, Below.refl _ _⟩
  by_cases h2 : s.data.toList = [46, 46]
  · rw [chk_dot s h0 (by omega) (Or.inr h2)]
    have e1 : (s.toList == [46]) = false := by rw [Lib.toList_data, h2]; rfl
    have e2 : (s.toList == [46, 46]) = true := by rw [Lib.toList_data, h2]; rfl
    clear h1 h2 h0 h13
    go_enter Try.func10, Try.ntmps10
    go_wp2
    go_ret
    exact ⟨rfl, Below.refl _ _⟩
  obtain ⟨e0', e1, e2, hc⟩ := chk_rest s h0 (by omega) h1 h2
  obtain ⟨v, hv⟩ : ∃ v : Int, (if Nm.badB s.data.toList = true then 22 else 0) = v := ⟨_, rfl⟩
  rw [hc, hv]
  have HV := Lib.hid hv
  have HC := Lib.hid (size_list s)
  clear e0' hc h1 h2 h13 hv
  go_enter Try.func10, Try.ntmps10
  go_wp2_with fail
  go_loop [3] (fun i => ∃ k : Nat, k ≤ s.size ∧ i = .int .i64 (k : Int) ∧ Hid (Nm.badB (s.data.toList.take k) = false)) (fun i => s.size - (intOf i).toNat)
  case atStart => exact ⟨0, Nat.zero_le _, rfl, Lib.hid rfl⟩
  case round =>
    obtain ⟨k, hk, rfl, hN⟩ := hrel
    by_cases hlt : k < s.size
    · obtain ⟨x, hx⟩ : ∃ x : UInt8, s[k]'hlt = x := ⟨_, rfl⟩
      have HX : Hid (s.data.toList[k]'(by rw [HC.out]; exact hlt) = x) := Lib.hid hx
      cases hb : Nm.bad x with
      | true =>
        have HB : Hid (Nm.badB s.data.toList = true) := Lib.hid (bad_in _ k (by rw [HC.out]; exact hlt) (by rw [HX.out]; exact hb))
        have hxx : (x.toNat : Int) = 0 ∨ (x.toNat : Int) = 47 := by
          unfold Nm.bad at hb
          rw [Bool.or_eq_true, beq_iff_eq, beq_iff_eq] at hb
          rcases hb with rfl | rfl
          · left; rfl
          · right; rfl
        clear hb
        rcases hxx with hxx | hxx
        · go_wp2
          go_ret
          exact ⟨ret_int (by rw [← HV.out, HB.out]; rfl), Below.refl _ _⟩
        · go_wp2
          go_ret
          exact ⟨ret_int (by rw [← HV.out, HB.out]; rfl), Below.refl _ _⟩
      | false =>
        have HN : Hid (Nm.badB (s.data.toList.take (k + 1)) = false) := Lib.hid (by
          rw [bad_take1 _ k (by rw [HC.out]; exact hlt), hN.out, HX.out, hb]; rfl)
        have hxx : ((x.toNat : Int) == 0) = false ∧ ((x.toNat : Int) == 47) = false := by
          unfold Nm.bad at hb
          rw [Bool.or_eq_false_iff, beq_eq_false_iff_ne, beq_eq_false_iff_ne] at hb
          refine ⟨beq_eq_false_iff_ne.2 fun e => hb.1 (UInt8.toNat_inj.1 ?_), beq_eq_false_iff_ne.2 fun e => hb.2 (UInt8.toNat_inj.1 ?_)⟩
          · show x.toNat = 0; omega
          · show x.toNat = 47; omega
        obtain ⟨hx0, hx1⟩ := hxx
        clear hb
        go_wp2
        go_round
        case rel => exact ⟨k + 1, by omega, by go_num, HN⟩
        case measure => simp [intOf]; omega
    · have HB : Hid (Nm.badB s.data.toList = false) := Lib.hid (by
        have := hN.out
        rw [List.take_of_length_le (by rw [HC.out]; omega)] at this
        exact this)
      go_wp2
      go_ret
      exact ⟨ret_int (by rw [← HV.out, HB.out]; rfl), Below.refl _ _⟩
end Go.Proofs.Ytejedkdlehgnpaa
