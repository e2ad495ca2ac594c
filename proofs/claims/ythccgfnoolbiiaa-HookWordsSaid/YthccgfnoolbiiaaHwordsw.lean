/-
  The walk of HookWords.
-/
import Derived.Test.YthccgfnoolbiiaaHawake
import Derived.Test.YthccgfnoolbiiaaHrwds
import Derived.Test.YthccgfnoolbiiaaHunp
namespace Go.Proofs.Ythccgfnoolbiiaa
open Go.RowKit Go.Maps Pq

theorem unpack_back (s : ByteArray) (h : s.size ≤ 16) (w : World) : Calls Try.prog 21 #[.int .i64 (Hk.packs s.data.toList).1, .int .i64 (Hk.packs s.data.toList).2, .int .i64 (s.size : Int)] w fun e w' => e = .returned (.string s) ∧ Below w.heap.size w w' := by
  have ls : s.data.toList.length = s.size := by simp
  have := unpack_any (Hk.packs s.data.toList).1 (Hk.packs s.data.toList).2 s.size w
  unfold Hk.unpacks at this
  rw [if_neg (by omega), Int.toNat_natCast] at this
  have e : (Hk.bytes16 (Hk.packs s.data.toList).1 (Hk.packs s.data.toList).2).take s.size = s.data.toList := by
    have hb := Hk.back s.data.toList (by omega)
    unfold Hk.packs
    rw [if_pos (by omega), ← ls]
    exact hb
  rw [e, strOf_bytes] at this
  exact this
set_option maxRecDepth 100000 in
set_option maxHeartbeats 4000000 in
theorem words_walk (s : ByteArray) (w : World) : Calls Try.prog 4 #[.string s] w fun e w' => e = .returned (.bool true) ∧ Below w.heap.size w w' := by
  by_cases hs : s.size ≤ 100
  · have HW := Lib.hid (fun w => words_any s w)
    have HRW := Lib.hid (fun w => rwords_any s w)
    have HP := Lib.hid (fun w => pack_any s w)
    have HRP := Lib.hid (fun w => rpack_any s w)
    have HU := Lib.hid (fun h w => unpack_back s h w)
    generalize Hk.words s.data.toList = x at HW HRW
    generalize Hk.packs s.data.toList = y at HP HRP HU
    obtain ⟨x1, x2⟩ := x
    obtain ⟨y1, y2⟩ := y
    go_enter Try.func4, Try.ntmps4
    go_wp2_with (first
      | (go_at_call 7; (with_reducible refine (awake_any _).mono ?_); rintro e w1 ⟨rfl, hb1⟩))
    go_wp2_with fail
    refine (HW.out _).mono ?_
    rintro e w2 ⟨rfl, hb2⟩
    go_wp2_with fail
    refine (HRW.out _).mono ?_
    rintro e w3 ⟨rfl, hb3⟩
    go_wp2_with fail
    refine (HP.out _).mono ?_
    rintro e w4 ⟨rfl, hb4⟩
    go_wp2_with fail
    refine (HRP.out _).mono ?_
    rintro e w5 ⟨rfl, hb5⟩
    have HBB : Hid (Below w.heap.size w w5) := Lib.hid ((((hb1.trans (hb2.mono hb1.size)).trans (hb3.mono (hb1.trans (hb2.mono hb1.size)).size)).trans (hb4.mono ((hb1.trans (hb2.mono hb1.size)).trans (hb3.mono (hb1.trans (hb2.mono hb1.size)).size)).size)).trans (hb5.mono (((hb1.trans (hb2.mono hb1.size)).trans (hb3.mono (hb1.trans (hb2.mono hb1.size)).size)).trans (hb4.mono ((hb1.trans (hb2.mono hb1.size)).trans (hb3.mono (hb1.trans (hb2.mono hb1.size)).size)).size)).size))
    clear hb1 hb2 hb3 hb4 hb5
    by_cases h16 : 16 < s.size
    · go_wp2
      go_ret
      exact ⟨rfl, HBB.out⟩
    · go_wp2_with (go_at_call 21; (with_reducible refine (HU.out (by omega) _).mono ?_); rintro e w6 ⟨rfl, hb6⟩)
      go_ret
      exact ⟨by simp, HBB.out.trans (hb6.mono HBB.out.size)⟩
  · go_enter Try.func4, Try.ntmps4
    have h2 : 100 < s.size := by omega
    go_wp2_with (first
      | (go_at_call 7; (with_reducible refine (awake_any _).mono ?_); rintro e w1 ⟨rfl, hb1⟩))
    go_ret
    exact ⟨rfl, hb1⟩
end Go.Proofs.Ythccgfnoolbiiaa
