/-
  The contracts of disk's small functions: Pages, Down, Cached, has, reach, spend, Fuse.
-/
import Derived.Test.YtlamllnflbdcjaaDmem
import Derived.Deep.QuietTactic
import Derived.BigQuiet
namespace Go.Proofs.Ytlamllnflbdcjaa
open Go.RowKit
open Dk (zeros zeros_length)

theorem pages_nil (w : World) : Calls Try.prog 16 #[.pointer none] w fun e w' => e = .returned (.int .i64 0) ∧ w = w' := by
  go_enter Try.func16, Try.ntmps16
  go_wp2
  go_ret
  exact ⟨rfl, rfl⟩
theorem pages_any {w : World} {d l m : Nat} {s : Dk.St} (h : DiskAt w d l m s) : Calls Try.prog 16 #[.pointer (some ⟨d, 0, none⟩)] w fun e w' => e = .returned (.int .i64 (s.last.length : Int)) ∧ w = w' := by
  have c3 := h.c3
  clear h
  go_enter Try.func16, Try.ntmps16
  go_wp2
  go_ret
  exact ⟨rfl, rfl⟩
theorem down_nil (w : World) : Calls Try.prog 15 #[.pointer none] w fun e w' => e = .returned (.bool true) ∧ w = w' := by
  go_enter Try.func15, Try.ntmps15
  go_wp2
  go_ret
  exact ⟨rfl, rfl⟩
theorem down_any {w : World} {d l m : Nat} {s : Dk.St} (h : DiskAt w d l m s) : Calls Try.prog 15 #[.pointer (some ⟨d, 0, none⟩)] w fun e w' => e = .returned (.bool s.down) ∧ w = w' := by
  have c2 := h.c2
  clear h
  go_enter Try.func15, Try.ntmps15
  go_wp2
  go_ret
  exact ⟨rfl, rfl⟩
theorem hasd_nil (i : Int) (w : World) : Calls Try.prog 32 #[.pointer none, .int .i64 i] w fun e w' => e = .returned (.bool false) ∧ w = w' := by
  by_cases h0 : 0 ≤ i
  · have h1 : decide (i < 0) = false := by rw [decide_eq_false_iff_not]; omega
    go_enter Try.func32, Try.ntmps32
    go_wp2_with (go_at_call 16; refine (pages_nil _).mono ?_; rintro e w' ⟨rfl, rfl⟩)
    go_ret
    exact ⟨ret_bool (by simp), rfl⟩
  · go_enter Try.func32, Try.ntmps32
    go_wp2
    go_ret
    exact ⟨rfl, rfl⟩
theorem hasd_any {w : World} {d l m : Nat} {s : Dk.St} (h : DiskAt w d l m s) (i : Int) : Calls Try.prog 32 #[.pointer (some ⟨d, 0, none⟩), .int .i64 i] w fun e w' => e = .returned (.bool (Dk.hasB s.last.length i)) ∧ w = w' := by
  have HP := Lib.hid (pages_any h)
  clear h
  generalize s.last.length = n at HP ⊢
  by_cases h0 : 0 ≤ i
  · go_enter Try.func32, Try.ntmps32
    go_wp2_with (go_at_call 16; refine HP.out.mono ?_; rintro e w' ⟨rfl, rfl⟩)
    go_ret
    exact ⟨ret_bool (by unfold Dk.hasB; rw [decide_eq_decide]; omega), rfl⟩
  · go_enter Try.func32, Try.ntmps32
    go_wp2
    go_ret
    exact ⟨ret_bool (by unfold Dk.hasB; symm; rw [decide_eq_false_iff_not]; omega), rfl⟩
theorem reach_nil (i : Int) (w : World) : Calls Try.prog 22 #[.pointer none, .int .i64 i] w fun e w' => e = .returned (.int .i64 5) ∧ w = w' := by
  go_enter Try.func22, Try.ntmps22
  go_wp2_with (go_at_call 15; refine (down_nil _).mono ?_; rintro e w' ⟨rfl, rfl⟩)
  go_ret
  exact ⟨rfl, rfl⟩
theorem reach_any {w : World} {d l m : Nat} {s : Dk.St} (h : DiskAt w d l m s) (i : Int) : Calls Try.prog 22 #[.pointer (some ⟨d, 0, none⟩), .int .i64 i] w fun e w' => e = .returned (.int .i64 (Dk.reachE s i)) ∧ w = w' := by
  have HD := Lib.hid (down_any h)
  have HH := Lib.hid (hasd_any h i)
  clear h
  unfold Dk.reachE
  generalize s.down = b at HD ⊢
  generalize Dk.hasB s.last.length i = c at HH ⊢
  cases b
  · cases c
    · go_enter Try.func22, Try.ntmps22
      go_wp2_with (first
        | (go_at_call 15; refine HD.out.mono ?_; rintro e w' ⟨rfl, rfl⟩)
        | (go_at_call 32; refine HH.out.mono ?_; rintro e w' ⟨rfl, rfl⟩))
      go_ret
      exact ⟨rfl, rfl⟩
    · go_enter Try.func22, Try.ntmps22
      go_wp2_with (first
        | (go_at_call 15; refine HD.out.mono ?_; rintro e w' ⟨rfl, rfl⟩)
        | (go_at_call 32; refine HH.out.mono ?_; rintro e w' ⟨rfl, rfl⟩))
      go_ret
      exact ⟨rfl, rfl⟩
  · go_enter Try.func22, Try.ntmps22
    go_wp2_with (first
      | (go_at_call 15; refine HD.out.mono ?_; rintro e w' ⟨rfl, rfl⟩))
    go_ret
    exact ⟨rfl, rfl⟩
/-- a step is spent -/
theorem spend_any {w : World} {d l m : Nat} {s : Dk.St} (h : DiskAt w d l m s) : Calls Try.prog 47 #[.pointer (some ⟨d, 0, none⟩)] w fun e w' =>
    e = .returned (.int .i64 (Dk.spendE s)) ∧ DiskAt w' d l m (Dk.spend s) ∧ Only [d] w w' ∧ w'.heap.size = w.heap.size := by
  have c0 := h.c0
  have c1 := h.c1
  have f1 := h.f1
  have f2 := h.f2
  have c2 := h.c2
  have HL := Lib.hid h.ok.lo
  have HI := Lib.hid h.ok.hi
  by_cases hl : s.lim = true
  · have h0 := h.ok.live hl
    rw [hl] at c0
    by_cases hz : s.left = 0
    · have HE : Hid (Dk.spendE s = 5) := Lib.hid (by unfold Dk.spendE; rw [if_pos ⟨hl, hz⟩])
      have HS : Hid (Dk.spend s = { s with down := true }) := Lib.hid (by unfold Dk.spend; rw [if_pos hl, if_pos hz])
      rw [hz] at c1
      have HD := Lib.hid h
      clear h hl hz h0
      go_enter Try.func47, Try.ntmps47
      go_wp2
      go_ret
      exact ⟨ret_int HE.out.symm, by rw [HS.out]; exact HD.out.setDown true, (Only.refl _ _).setCell (by simp) _, by simp⟩
    · have HE : Hid (Dk.spendE s = 0) := Lib.hid (by unfold Dk.spendE; rw [if_neg (fun e => hz e.2)])
      have HS : Hid (Dk.spend s = { s with left := s.left - 1 }) := Lib.hid (by unfold Dk.spend; rw [if_pos hl, if_neg hz])
      have hb : (s.left == 0) = false := by simpa using hz
      have HD := Lib.hid h
      have HK : Hid (Dk.St.Ok { s with left := s.left - 1 }) := Lib.hid (HS.out ▸ Dk.spend_ok h.ok)
      have h1 := h.ok.hi
      clear h hl hz
      go_enter Try.func47, Try.ntmps47
      go_wp2
      go_ret
      exact ⟨ret_int HE.out.symm, by rw [HS.out]; exact HD.out.setLeft _ HK.out, (Only.refl _ _).setCell (by simp) _, by simp⟩
  · have HE : Hid (Dk.spendE s = 0) := Lib.hid (by unfold Dk.spendE; rw [if_neg (fun e => hl e.1)])
    have HS : Hid (Dk.spend s = s) := Lib.hid (by unfold Dk.spend; rw [if_neg hl])
    have hb : s.lim = false := by simpa using hl
    rw [hb] at c0
    have HD := Lib.hid h
    clear h hl hb
    go_enter Try.func47, Try.ntmps47
    go_wp2
    go_ret
    exact ⟨ret_int HE.out.symm, by rw [HS.out]; exact HD.out, Only.refl _ _, rfl⟩
theorem fuse_nil (k : Int) (w : World) : Calls Try.prog 10 #[.pointer none, .int .i64 k] w fun e w' => e = .returned (.tuple #[]) ∧ w = w' := by
  go_enter Try.func10, Try.ntmps10
  go_wp2
  (try simp only [Exit.inBlock, Exit.then])
  refine bodyPost_ret (results_none rfl _ _ _) rfl ?_
  exact ⟨rfl, rfl⟩
theorem fuse_any {w : World} {d l m : Nat} {s : Dk.St} (h : DiskAt w d l m s) (k : Int) (h1 : -9223372036854775808 ≤ k) (h2 : k ≤ 9223372036854775807) : Calls Try.prog 10 #[.pointer (some ⟨d, 0, none⟩), .int .i64 k] w fun e w' =>
    e = .returned (.tuple #[]) ∧ DiskAt w' d l m (Dk.fuse s k) ∧ Only [d] w w' ∧ w'.heap.size = w.heap.size := by
  have c0 := h.c0
  have c1 := h.c1
  have f0 := h.f0
  have f1 := h.f1
  have HD := Lib.hid h
  have HK := Lib.hid (Dk.fuse_ok h.ok k h1 h2)
  clear h
  go_enter Try.func10, Try.ntmps10
  go_wp2
  go_end0
  exact ⟨rfl, HD.out.setFuse _ _ HK.out, ((Only.refl _ _).setCell (by simp) _).setCell (by simp) _, by simp⟩
end Go.Proofs.Ytlamllnflbdcjaa
