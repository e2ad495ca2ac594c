/-
  The document's own signed.
-/
import Derived.Test.YteobdjgodljjmaaYlow
namespace Go.Proofs.Yteobdjgodljjmaa
open Go.RowKit

theorem take_snoc (s : ByteArray) (k : Nat) (h : k < s.size) : s.data.toList.take (k + 1) = s.data.toList.take k ++ [s[k]] := by
  rw [List.take_succ_eq_append_getElem (by simpa using h)]; rfl
set_option maxHeartbeats 1000000 in
theorem signed_any (s : ByteArray) (w : World) (hs : s.size ≤ 4) :
    Calls Try.prog 27 #[.string s] w fun e w' => e = .returned (.int .i64 (Y.signed s.data.toList)) ∧ w = w' := by
  have HN : Hid (∀ k, 0 ≤ Y.numOf (s.data.toList.take k) ∧ Y.numOf (s.data.toList.take k) ≤ 4294967295) := Lib.hid (fun k => Y.numOf_four _ (by have : s.data.toList.length = s.size := rfl; rw [List.length_take]; omega))
  have HL : Hid (s.data.toList.length = s.size) := Lib.hid rfl
  obtain ⟨m, hm⟩ : ∃ m, m = s.size := ⟨_, rfl⟩
  go_enter Try.func27, Try.ntmps27
  go_wp2
  go_loop [3, 4] (fun n i => ∃ k : Nat, k ≤ s.size ∧ i = .int .i64 (k : Int) ∧ n = .int .i64 (Y.numOf (s.data.toList.take k))) (fun _ i => s.size - (intOf i).toNat)
  case atStart => exact ⟨0, Nat.zero_le _, rfl, rfl⟩
  case round =>
    obtain ⟨k, hk, rfl, rfl⟩ := hrel
    by_cases hlt : k < s.size
    · have HS : Hid (Y.numOf (s.data.toList.take (k + 1)) = Y.numOf (s.data.toList.take k) * 256 + (s[k].toNat : Int)) := Lib.hid (by rw [take_snoc s k hlt, Y.numOf_snoc])
      obtain ⟨hb0, hb1⟩ := HN.out k
      obtain ⟨x, hx⟩ : ∃ x, x = Y.numOf (s.data.toList.take k) := ⟨_, rfl⟩
      rw [← hx] at HS hb0 hb1 ⊢
      clear hx
      have hc0 : (s[k].toNat : Int) < 256 := by have := s[k].toNat_lt; omega
      go_wp2
      go_round
      case rel => exact ⟨k + 1, by omega, by go_num, by rw [HS.out]⟩
      case measure => (simp [intOf] <;> omega)
    · obtain rfl : k = s.size := by omega
      have e : s.data.toList.take s.size = s.data.toList := List.take_of_length_le (by rw [HL.out]; exact Nat.le_refl _)
      rw [e]
      obtain ⟨hb0, hb1⟩ := HN.out s.size
      rw [e] at hb0 hb1
      clear e hlt
      obtain ⟨x, hx⟩ : ∃ x, x = Y.numOf s.data.toList := ⟨_, rfl⟩
      rw [← hx] at hb0 hb1 ⊢
      have HX := Lib.hid hx
      clear hx
      go_wp2
      go_loop [5, 6] (fun t i => ∃ k : Nat, k ≤ s.size ∧ i = .int .i64 (k : Int) ∧ t = .int .i64 (256 ^ k)) (fun _ i => s.size - (intOf i).toNat)
      case atStart => exact ⟨0, Nat.zero_le _, rfl, rfl⟩
      case round =>
        obtain ⟨k, hk, rfl, rfl⟩ := hrel
        by_cases hlt : k < s.size
        · have HP : Hid ((256 : Int) ^ (k + 1) = 256 ^ k * 256) := Lib.hid (Int.pow_succ _ _)
          obtain ⟨y, hy⟩ : ∃ y, y = (256 : Int) ^ k := ⟨_, rfl⟩
          rw [← hy] at HP ⊢
          have hy0 : 0 ≤ y := by rw [hy]; exact Int.pow_nonneg (by decide)
          have hy1 : y ≤ 16777216 := by
            have : k = 0 ∨ k = 1 ∨ k = 2 ∨ k = 3 := by omega
            rw [hy]
            rcases this with e | e | e | e <;> rw [e] <;> decide
          clear hy
          go_wp2
          go_round
          case rel => exact ⟨k + 1, by omega, by go_num, by rw [HP.out]⟩
          case measure => (simp [intOf] <;> omega)
        · obtain rfl : k = s.size := by omega
          have HE : Hid (Y.signed s.data.toList = if 256 ^ s.size / 2 ≤ x then x - 256 ^ s.size else x) := Lib.hid (by unfold Y.signed; rw [HL.out, HX.out])
          obtain ⟨y, hy⟩ : ∃ y, y = (256 : Int) ^ s.size := ⟨_, rfl⟩
          rw [← hy] at HE ⊢
          have hy0 : 0 ≤ y := by rw [hy]; exact Int.pow_nonneg (by decide)
          have hy1 : y ≤ 4294967296 := by
            have : s.size = 0 ∨ s.size = 1 ∨ s.size = 2 ∨ s.size = 3 ∨ s.size = 4 := by omega
            rw [hy]
            rcases this with e | e | e | e | e <;> rw [e] <;> decide
          clear hy hlt
          by_cases hc : y / 2 ≤ x
          · have HE2 : Hid (Y.signed s.data.toList = x - y) := Lib.hid (by rw [HE.out, if_pos hc])
            clear HE
            go_wp2
            go_ret
            exact ⟨ret_int HE2.out.symm, rfl⟩
          · have HE2 : Hid (Y.signed s.data.toList = x) := Lib.hid (by rw [HE.out, if_neg hc])
            clear HE
            have hc2 : x < y / 2 := by omega
            go_wp2
            go_ret
            exact ⟨ret_int HE2.out.symm, rfl⟩
end Go.Proofs.Yteobdjgodljjmaa
