/-
  The document's own among, Known, HasImm.
-/
import Derived.Test.YteobdjgodljjmaaYmem
namespace Go.Proofs.Yteobdjgodljjmaa
open Go.RowKit

theorem mem_take (n : Int) (zs : List Int) (k : Nat) (z : Int) (h : zs[k]? = some z) : Y.mem n (zs.take (k + 1)) = (Y.mem n (zs.take k) || z == n) := by
  obtain ⟨hk, he⟩ := List.getElem?_eq_some_iff.1 h
  rw [List.take_succ_eq_append_getElem hk, he]
  unfold Y.mem
  rw [List.any_append]
  simp
theorem mem_there (n : Int) (zs : List Int) (k : Nat) (z : Int) (h : zs[k]? = some z) (he : (z == n) = true) : Y.mem n zs = true := by
  unfold Y.mem
  rw [List.any_eq_true]
  exact ⟨z, List.mem_of_getElem? h, he⟩
set_option maxHeartbeats 400000 in
theorem among_any (n : Int) (zs : List Int) (b c : Nat) (w : World) (hz : IntsAt w b zs) (hl : zs.length ≤ 100) :
    Calls Try.prog 30 #[.int .i64 n, .slice (some ⟨b, 0, none⟩) zs.length c] w fun e w' => e = .returned (.bool (Y.mem n zs)) ∧ w = w' := by
  have HZ := Lib.hid hz
  have HN := Lib.hid (mem_take n zs)
  have HT := Lib.hid (mem_there n zs)
  obtain ⟨m, hm⟩ : ∃ m, m = zs.length := ⟨_, rfl⟩
  rw [← hm] at hl ⊢
  have HM := Lib.hid hm
  clear hz hm
  go_enter Try.func30, Try.ntmps30
  go_wp2
  go_loop [5] (fun i => ∃ k : Nat, k ≤ m ∧ i = .int .i64 (k : Int) ∧ Hid (Y.mem n (zs.take k) = false)) (fun i => m - (intOf i).toNat)
  case atStart => exact ⟨0, Nat.zero_le _, rfl, Lib.hid rfl⟩
  case round =>
    obtain ⟨k, hk, rfl, HF⟩ := hrel
    by_cases hlt : k < m
    · obtain ⟨z, hz⟩ : ∃ z, zs[k]? = some z := ⟨_, List.getElem?_eq_getElem (by rw [← HM.out]; exact hlt)⟩
      have hc := HZ.out.cells k z hz
      have HZ1 := Lib.hid hz
      clear hz
      cases he : (z == n) with
      | true =>
        go_wp2
        go_ret
        exact ⟨ret_bool (HT.out k z HZ1.out he).symm, rfl⟩
      | false =>
        go_wp2
        go_round
        case rel => exact ⟨k + 1, by omega, by go_num, Lib.hid (by rw [HN.out k z HZ1.out, HF.out, he]; rfl)⟩
        case measure => simp [intOf]; omega
    · obtain rfl : k = m := by omega
      have e : zs.take k = zs := by rw [HM.out]; exact List.take_of_length_le (Nat.le_refl _)
      rw [e] at HF
      clear e
      go_wp2
      go_ret
      exact ⟨ret_bool HF.out.symm, rfl⟩
set_option maxHeartbeats 1000000 in
theorem rknown_any (o : Int) (w : World) : Calls Try.prog 29 #[.int .i64 o] w fun e w' => e = .returned (.bool (Y.known o)) ∧ w = w' := by
  go_enter Try.func29, Try.ntmps29
  go_wp2
  all_goals
    go_ret
    refine ⟨ret_bool ?_, rfl⟩
    unfold Y.known
    rw [Bool.eq_iff_iff]
    simp
    try omega
set_option maxHeartbeats 1000000 in
theorem rhasImm_any (o : Int) (w : World) : Calls Try.prog 17 #[.int .i64 o] w fun e w' => e = .returned (.bool (Y.hasImm o)) ∧ w = w' := by
  go_enter Try.func17, Try.ntmps17
  go_wp2
  all_goals
    go_ret
    refine ⟨ret_bool ?_, rfl⟩
    unfold Y.hasImm
    rw [Bool.eq_iff_iff]
    simp
    try omega
end Go.Proofs.Yteobdjgodljjmaa
