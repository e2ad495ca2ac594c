/-
  The walk of HookUnpacks.
-/
import Derived.Test.YthccgfnoolbiiaaHawake
import Derived.Test.YthccgfnoolbiiaaHunp
namespace Go.Proofs.Ythccgfnoolbiiaa
open Go.RowKit Go.Maps Pq

theorem unpack_all (a b : Int) (w : World) : Calls Try.prog 21 #[.int .i64 a, .int .i64 b, .int .i64 16] w fun e w' => e = .returned (.string (strOf (Hk.bytes16 a b))) ∧ Below w.heap.size w w' := by
  have := unpack_any a b 16 w
  unfold Hk.unpacks at this
  rw [if_neg (by omega), show (16 : Int).toNat = 16 from rfl, List.take_of_length_le (by rw [Hk.bytes16_length]; exact Nat.le_refl _)] at this
  exact this
theorem pack_back (a b : Int) (w : World) (ha1 : -9223372036854775808 ≤ a) (ha2 : a ≤ 9223372036854775807) (hb1 : -9223372036854775808 ≤ b) (hb2 : b ≤ 9223372036854775807) : Calls Try.prog 19 #[.string (strOf (Hk.bytes16 a b))] w fun e w' => e = .returned (.tuple #[.int .i64 a, .int .i64 b]) ∧ Below w.heap.size w w' := by
  have := pack_any (strOf (Hk.bytes16 a b)) w
  have e : (strOf (Hk.bytes16 a b)).data.toList = Hk.bytes16 a b := rfl
  unfold Hk.packs at this
  obtain ⟨f1, f2⟩ := Hk.forth a b ha1 ha2 hb1 hb2
  rw [e, if_pos (by rw [Hk.bytes16_length]; exact Nat.le_refl _), f1, f2] at this
  exact this
theorem unpack_out (a b n : Int) (h : n < 0 ∨ 16 < n) (w : World) : Calls Try.prog 21 #[.int .i64 a, .int .i64 b, .int .i64 n] w fun e w' => e = .returned (.string ⟨#[]⟩) ∧ Below w.heap.size w w' := unpack_no a b n w h
theorem unpack_in (a b : Int) (n : Nat) (h : n ≤ 16) (w : World) : Calls Try.prog 21 #[.int .i64 a, .int .i64 b, .int .i64 (n : Int)] w fun e w' => e = .returned (.string ((strOf (Hk.bytes16 a b)).extract 0 n)) ∧ Below w.heap.size w w' := by
  have := unpack_yes a b n w h
  have e : strOf ((Hk.bytes16 a b).take n) = (strOf (Hk.bytes16 a b)).extract 0 n := by
    apply ByteArray.ext
    unfold strOf
    apply Array.toList_inj.1
    simp
  rw [e] at this
  exact this
set_option maxRecDepth 100000 in
set_option maxHeartbeats 4000000 in
theorem unp_walk (a b n : Int) (w : World) (ha1 : -9223372036854775808 ≤ a) (ha2 : a ≤ 9223372036854775807) (hb1 : -9223372036854775808 ≤ b) (hb2 : b ≤ 9223372036854775807) :
    Calls Try.prog 6 #[.int .i64 a, .int .i64 b, .int .i64 n] w fun e w' => e = .returned (.bool true) ∧ Below w.heap.size w w' := by
  have HU := Lib.hid (fun w => unpack_all a b w)
  have HP := Lib.hid (fun w => pack_back a b w ha1 ha2 hb1 hb2)
  have HO := Lib.hid (fun h w => unpack_out a b n h w)
  have HI := Lib.hid (fun n h w => unpack_in a b n h w)
  have HZ : Hid ((strOf (Hk.bytes16 a b)).size = 16) := Lib.hid (by rw [strOf_size, Hk.bytes16_length])
  clear ha1 ha2 hb1 hb2
  generalize strOf (Hk.bytes16 a b) = s at HU HP HI HZ
  go_enter Try.func6, Try.ntmps6
  go_wp2_with (first
    | (go_at_call 7; (with_reducible refine (awake_any _).mono ?_); rintro e w1 ⟨rfl, hb1⟩))
  go_wp2_with fail
  refine (HU.out _).mono ?_
  rintro e w2 ⟨rfl, hb2⟩
  go_wp2_with fail
  refine (HP.out _).mono ?_
  rintro e w3 ⟨rfl, hb3⟩
  have HBB : Hid (Below w.heap.size w w3) := Lib.hid (hb1.trans ((hb2.mono hb1.size).trans (hb3.mono (Nat.le_trans hb1.size hb2.size))))
  clear hb1 hb2 hb3
  go_wp2_with fail
  by_cases h : n < 0 ∨ 16 < n
  · refine (HO.out h _).mono ?_
    rintro e w4 ⟨rfl, hb4⟩
    rcases h with h | h
    · go_wp2
      go_ret
      exact ⟨by simp, HBB.out.trans (hb4.mono HBB.out.size)⟩
    · have h0 : ¬ n < 0 := by omega
      go_wp2
      go_ret
      exact ⟨by simp, HBB.out.trans (hb4.mono HBB.out.size)⟩
  · obtain ⟨N, rfl⟩ := Int.eq_ofNat_of_zero_le (show 0 ≤ n by omega)
    have hN : N ≤ 16 := by omega
    have hz := HZ.out
    refine (HI.out N hN _).mono ?_
    rintro e w4 ⟨rfl, hb4⟩
    clear h
    go_wp2
    go_ret
    exact ⟨by simp, HBB.out.trans (hb4.mono HBB.out.size)⟩
end Go.Proofs.Ythccgfnoolbiiaa
