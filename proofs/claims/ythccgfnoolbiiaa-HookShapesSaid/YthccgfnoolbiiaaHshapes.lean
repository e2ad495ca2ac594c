/-
  The walk of HookShapes.
-/
import Derived.Test.YthccgfnoolbiiaaHawake
namespace Go.Proofs.Ythccgfnoolbiiaa
open Go.RowKit Go.Maps Pq

set_option maxRecDepth 100000 in
set_option maxHeartbeats 4000000 in
theorem shapes_walk (h k : Int) (w : World) : Calls Try.prog 3 #[.int .i64 h, .int .i64 k] w fun e w' => e = .returned (.bool true) ∧ Below w.heap.size w w' := by
  have HK : ∀ w, Calls Try.prog 10 #[.int .i64 h] w fun e w' => e = .returned (.bool (Hk.knownF h)) ∧ w = w' := fun w => known_any h w
  obtain ⟨ai, hai⟩ : ∃ ai, Hk.inF h = ai := ⟨_, rfl⟩
  obtain ⟨ao, hao⟩ : ∃ ao, Hk.outF h = ao := ⟨_, rfl⟩
  obtain ⟨at_, hat⟩ : ∃ at_, Hk.toldF h = at_ := ⟨_, rfl⟩
  obtain ⟨aa, haa⟩ : ∃ aa, Hk.argsF h k = aa := ⟨_, rfl⟩
  have HI := Lib.hid (fun w => in_any h w)
  have HO := Lib.hid (fun w => out_any h w)
  have HT := Lib.hid (fun w => told_any h w)
  have HA := Lib.hid (fun w => args_any h k w)
  have HRI := Lib.hid (fun w => rin_any h w)
  have HRO := Lib.hid (fun w => rout_any h w)
  have HRT := Lib.hid (fun w => rtold_any h w)
  have HRA := Lib.hid (fun w => rargs_any h k w)
  rw [hai] at HI HRI
  rw [hao] at HO HRO
  rw [hat] at HT HRT
  rw [haa] at HA HRA
  clear hai hao hat haa
  obtain ⟨kb, hkb⟩ : ∃ kb, Hk.knownF h = kb := ⟨_, rfl⟩
  have HKN := Lib.hid HK
  rw [hkb] at HKN
  have hkb' : (decide (1 ≤ h) && decide (h ≤ 8)) = kb := hkb
  clear HK hkb
  go_enter Try.func3, Try.ntmps3
  go_wp2_with (go_at_call 7; refine (awake_any _).mono ?_; rintro e w' ⟨rfl, hb⟩)
  go_wp2_with (first
    | (go_at_call 8; (with_reducible refine (HA.out _).mono ?_); rintro e w2 ⟨rfl, rfl⟩)
    | (go_at_call 9; (with_reducible refine (HRA.out _).mono ?_); rintro e w2 ⟨rfl, rfl⟩))
  by_cases c1 : 1 ≤ h
  · by_cases c2 : h ≤ 8
    · obtain rfl : kb = true := by rw [← hkb']; simp [c1, c2]
      clear hkb'
      go_wp2_with (first
    | (go_at_call 10; (with_reducible refine (HKN.out _).mono ?_); rintro e w2 ⟨rfl, rfl⟩)
    | (go_at_call 11; (with_reducible refine (HI.out _).mono ?_); rintro e w2 ⟨rfl, rfl⟩)
    | (go_at_call 12; (with_reducible refine (HRI.out _).mono ?_); rintro e w3 ⟨rfl, hb3⟩)
    | (go_at_call 13; (with_reducible refine (HO.out _).mono ?_); rintro e w2 ⟨rfl, rfl⟩)
    | (go_at_call 14; (with_reducible refine (HRO.out _).mono ?_); rintro e w2 ⟨rfl, rfl⟩)
    | (go_at_call 15; (with_reducible refine (HT.out _).mono ?_); rintro e w2 ⟨rfl, rfl⟩)
    | (go_at_call 16; (with_reducible refine (HRT.out _).mono ?_); rintro e w2 ⟨rfl, rfl⟩))
      go_ret
      exact ⟨rfl, hb.trans (hb3.mono hb.size)⟩
    · obtain rfl : kb = false := by rw [← hkb']; simp [c2]
      clear hkb'
      have c3 : decide (h ≤ 8) = false := by simpa using c2
      go_wp2_with (first
    | (go_at_call 10; (with_reducible refine (HKN.out _).mono ?_); rintro e w2 ⟨rfl, rfl⟩)
    | (go_at_call 11; (with_reducible refine (HI.out _).mono ?_); rintro e w2 ⟨rfl, rfl⟩)
    | (go_at_call 12; (with_reducible refine (HRI.out _).mono ?_); rintro e w3 ⟨rfl, hb3⟩)
    | (go_at_call 13; (with_reducible refine (HO.out _).mono ?_); rintro e w2 ⟨rfl, rfl⟩)
    | (go_at_call 14; (with_reducible refine (HRO.out _).mono ?_); rintro e w2 ⟨rfl, rfl⟩)
    | (go_at_call 15; (with_reducible refine (HT.out _).mono ?_); rintro e w2 ⟨rfl, rfl⟩)
    | (go_at_call 16; (with_reducible refine (HRT.out _).mono ?_); rintro e w2 ⟨rfl, rfl⟩))
      go_ret
      exact ⟨rfl, hb.trans (hb3.mono hb.size)⟩
  · obtain rfl : kb = false := by rw [← hkb']; simp; omega
    clear hkb'
    go_wp2_with (first
    | (go_at_call 10; (with_reducible refine (HKN.out _).mono ?_); rintro e w2 ⟨rfl, rfl⟩)
    | (go_at_call 11; (with_reducible refine (HI.out _).mono ?_); rintro e w2 ⟨rfl, rfl⟩)
    | (go_at_call 12; (with_reducible refine (HRI.out _).mono ?_); rintro e w3 ⟨rfl, hb3⟩)
    | (go_at_call 13; (with_reducible refine (HO.out _).mono ?_); rintro e w2 ⟨rfl, rfl⟩)
    | (go_at_call 14; (with_reducible refine (HRO.out _).mono ?_); rintro e w2 ⟨rfl, rfl⟩)
    | (go_at_call 15; (with_reducible refine (HT.out _).mono ?_); rintro e w2 ⟨rfl, rfl⟩)
    | (go_at_call 16; (with_reducible refine (HRT.out _).mono ?_); rintro e w2 ⟨rfl, rfl⟩))
    go_ret
    exact ⟨rfl, hb.trans (hb3.mono hb.size)⟩
end Go.Proofs.Ythccgfnoolbiiaa
