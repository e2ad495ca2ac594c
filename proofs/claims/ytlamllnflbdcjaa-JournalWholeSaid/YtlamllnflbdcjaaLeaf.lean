/-
  The contracts of split, join and add, and of the document's own More.
-/
import Derived.Test.YtlamllnflbdcjaaDpage
import Derived.Test.YtlamllnflbdcjaaMath
import Derived.WalkKit
import Derived.WalkSpells
import Derived.WalkLawsBesides
import Derived.Laws.BitsAllLaws
import Derived.Lib.Hide
namespace Go.Proofs.Ytlamllnflbdcjaa
open Go.RowKit

theorem ret_int2 {k : IntKind} {a b c d : Int} (h : a = b) (h' : c = d) : Ending.returned (.tuple #[.int k a, .int k c]) = .returned (.tuple #[.int k b, .int k d]) := by rw [h, h']
theorem and_mask (s : Int) (h0 : 0 ≤ s) (h1 : s < 4294967296) : (bits BinOp.and IntKind.u32 s 65535).tmod 65535 = s % 65536 % 65535 := by
  rw [u32_and s 65535 h0 h1 (by omega) (by omega)]
  have e : s.toNat &&& (65535 : Int).toNat = s.toNat % 65536 := Nat.and_two_pow_sub_one_eq_mod s.toNat 16
  rw [e, Int.tmod_eq_emod_of_nonneg (by omega)]
  omega
theorem or_join (a b : Int) (h0 : 0 ≤ a) (h1 : a < 65535) (h2 : 0 ≤ b) (h3 : b < 65535) : bits BinOp.or IntKind.u32 (b * 65536) a = Mt.joinN (a, b) := by
  rw [u32_or (b * 65536) a (by omega) (by omega) (by omega) (by omega)]
  have e : (b * 65536).toNat ||| a.toNat = (b * 65536).toNat + a.toNat := nat_join 16 _ _ (by omega) (by omega)
  rw [e]
  unfold Mt.joinN
  simp only
  omega

set_option maxHeartbeats 400000 in
theorem split_any (s : Int) (w : World) (h0 : 0 ≤ s) (h1 : s < 4294967296) :
    Calls Try.prog 42 #[.int .u32 s] w fun e w' => e = .returned (.tuple #[.int .u32 (Mt.splitN s).1, .int .u32 (Mt.splitN s).2]) ∧ w = w' := by
  go_enter Try.func42, Try.ntmps42
  go_wp2
  go_ret2
  exact ⟨ret_int2 (and_mask s h0 h1) rfl, rfl⟩
set_option maxHeartbeats 400000 in
theorem join_any (a b : Int) (w : World) (h0 : 0 ≤ a) (h1 : a < 65535) (h2 : 0 ≤ b) (h3 : b < 65535) :
    Calls Try.prog 44 #[.int .u32 a, .int .u32 b] w fun e w' => e = .returned (.int .u32 (Mt.joinN (a, b))) ∧ w = w' := by
  go_enter Try.func44, Try.ntmps44
  go_wp2
  go_ret
  exact ⟨ret_int (or_join a b h0 h1 h2 h3), rfl⟩

theorem take_snoc (s : ByteArray) (k : Nat) (h : k < s.size) : s.data.toList.take (k + 1) = s.data.toList.take k ++ [s[k]] := by
  rw [List.take_succ_eq_append_getElem (by simpa using h)]; rfl

set_option maxHeartbeats 400000 in
theorem add_any (a b : Int) (s : ByteArray) (w : World) (hf : Mt.Fit (a, b)) (hs : s.size ≤ maxLen) :
    Calls Try.prog 43 #[.int .u32 a, .int .u32 b, .string s] w fun e w' => e = .returned (.tuple #[.int .u32 (Mt.run (a, b) s.data.toList).1, .int .u32 (Mt.run (a, b) s.data.toList).2]) ∧ w = w' := by
  unfold maxLen at hs
  go_enter Try.func43, Try.ntmps43
  go_wp2
  go_loop [0, 1, 11] (fun x y i => ∃ k : Nat, k ≤ s.size ∧ i = .int .i64 k ∧ x = .int .u32 (Mt.run (a, b) (s.data.toList.take k)).1 ∧ y = .int .u32 (Mt.run (a, b) (s.data.toList.take k)).2) (fun _ _ i => s.size - (intOf i).toNat)
  case atStart => exact ⟨0, Nat.zero_le _, rfl, rfl, rfl⟩
  case round =>
    obtain ⟨k, hk, rfl, rfl, rfl⟩ := hrel
    have hr := Mt.fit_run (a, b) (s.data.toList.take k) hf
    by_cases hlt : k < s.size
    · have HS : Hid (Mt.run (a, b) (s.data.toList.take (k + 1)) = Mt.step (Mt.run (a, b) (s.data.toList.take k)) s[k]) := Lib.hid (by rw [take_snoc s k hlt, Mt.run_snoc])
      obtain ⟨r1, r2, r3, r4⟩ := hr
      have hc := s[k].toNat_lt
      go_wp2
      go_round
      case rel => exact ⟨k + 1, by omega, by go_num, by rw [HS.out]; rfl, by rw [HS.out]; rfl⟩
      case measure => simp [intOf]; omega
    · have HK : Hid (s.data.toList.take k = s.data.toList) := Lib.hid (List.take_of_length_le (by simp; omega))
      go_wp2
      go_ret2
      exact ⟨ret_int2 (by rw [HK.out]) (by rw [HK.out]), rfl⟩

end Go.Proofs.Ytlamllnflbdcjaa
