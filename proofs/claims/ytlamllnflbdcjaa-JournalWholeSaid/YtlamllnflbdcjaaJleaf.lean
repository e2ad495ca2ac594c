/-
  The contracts of sum.Pages, and of journal's small functions: Room, lists, other.
-/
import Derived.Test.YtlamllnflbdcjaaJmem
import Derived.Laws.IdiomStrings
namespace Go.Proofs.Ytlamllnflbdcjaa
open Go.RowKit
open Dk (zeros zeros_length)
open Hd (Head rightB pageH)
open Jn (Chg)

theorem page_text {W : World} {B : Nat} {p : List UInt8} (h : PageAt W B p) : (convert 29 9 (.slice (some ⟨B, 0, none⟩) 64 64)).run Try.prog W = .ok (.string ⟨p.toArray⟩) W := by
  have := run_convert_bytes_back (P := Try.prog) W 29 9 5 ⟨B, 0, none⟩ 64 p Try.underlying29 Try.underlying5 Try.underlying9 (fun j hj => by
    rw [Addr.add_mid]
    have := h.range j _ (byteVals_at p j hj)
    exact this)
  rw [h.len] at this
  exact this
set_option maxRecDepth 100000 in
set_option maxHeartbeats 1000000 in
theorem sumPages_any (A : Option Addr) (n c : Nat) (ps : List (List UInt8)) (w : World) (hrow : PageRow w A n ps) (hn : n ≤ 1000) (h0 : 0 < n) :
    Calls Try.prog 31 #[.slice A n c] w fun e w' => e = .returned (.int .u32 (Jn.sumN ps)) ∧ Below w.heap.size w w' := by
  have HR : Hid (NxR w A n ps w) := Lib.hid ⟨hrow, Below.refl _ _⟩
  have HL := Lib.hid hrow.len
  have HZ := Lib.hid hrow.size
  clear hrow
  have hf := Mt.fit_zero
  go_enter Try.func31, Try.ntmps31
  go_wp2_with (go_at_call 42; refine (split_any _ _ (by omega) (by omega)).mono ?_; rintro e w' ⟨rfl, rfl⟩)
  go_loopw [3, 4, 13] (fun x y i wr => ∃ k : Nat, k ≤ n ∧ i = .int .i64 k ∧ x = .int .u32 (Mt.run (0, 0) (ps.take k).flatten).1 ∧ y = .int .u32 (Mt.run (0, 0) (ps.take k).flatten).2 ∧ NxR w A n ps wr) (fun _ _ i _ => n - (intOf i).toNat)
  case atStart => exact ⟨0, Nat.zero_le _, rfl, rfl, rfl, HR.out⟩
  case round =>
    obtain ⟨k, hk, rfl, rfl, rfl, hnx⟩ := hrel
    have HX := Lib.hid hnx
    clear hnx HR
    have hr := Mt.fit_run (0, 0) (ps.take k).flatten hf
    obtain ⟨r1, r2, r3, r4⟩ := id hr
    have HF := Lib.hid hr; clear hr
    by_cases hlt : k < n
    · obtain ⟨b, off, rfl, hb, hc⟩ := HX.out.1.cells (by omega)
      obtain ⟨p, hp⟩ : ∃ p, ps[k]? = some p := ⟨_, List.getElem?_eq_getElem (by rw [HL.out]; exact hlt)⟩
      have HP := Lib.hid (hc k p hp)
      have HPL := Lib.hid (HZ.out p (List.mem_of_getElem? hp))
      have HS : Hid (Mt.run (0, 0) (ps.take (k + 1)).flatten = Mt.run (Mt.run (0, 0) (ps.take k).flatten) (⟨p.toArray⟩ : ByteArray).data.toList) := Lib.hid (by
        rw [take_more ps k p hp, List.flatten_append, Mt.run_append]; simp)
      have HSZ : Hid ((⟨p.toArray⟩ : ByteArray).size ≤ maxLen) := Lib.hid (by show p.toArray.size ≤ _; rw [List.size_toArray, HPL.out]; unfold maxLen; omega)
      clear hc hp hb
      go_wp2_with (first
        | ((with_reducible refine wpList_load_at HP.out HPL.out rfl (.tmp 15) rfl ?_ ?_); (exact rfl))
        | ((with_reducible refine wpList_store_new rfl (.tmp 6) (.tmp 16) rfl rfl ?_ ?_ HPL.out ?_); (exact rfl); (exact rfl); intro W2 hP hB2 hz2; have hcv := page_text hP; have HX2 := Lib.hid (NxR.call HX.out hB2); clear HX hP hB2 hz2)
        | (go_at_call 43; refine (add_any _ _ _ _ HF.out HSZ.out).mono ?_; rintro e w' ⟨rfl, rfl⟩))
      go_roundw
      case rel => exact ⟨k + 1, by omega, by go_num, by rw [HS.out]; rfl, by rw [HS.out]; rfl, HX2.out⟩
      case measure => simp [intOf]; omega
    · have HK : Hid (ps.take k = ps) := Lib.hid (List.take_of_length_le (by rw [HL.out]; omega))
      go_wp2_with (go_at_call 44; refine (join_any _ _ _ r1 r2 r3 r4).mono ?_; rintro e w' ⟨rfl, rfl⟩)
      go_ret
      exact ⟨ret_int (by rw [HK.out]; rfl), HX.out.2⟩

/-! ### Room, lists -/
/-- the room of a region of z pages is r -/
def RoomIs (z r : Nat) : Prop := ∀ w, Calls Try.prog 13 #[.int .i64 (z : Int)] w fun e w' => e = .returned (.int .i64 (r : Int)) ∧ w = w'
theorem room20 : RoomIs 20 18 := fun w => by
  show Calls Try.prog 13 #[.int .i64 20] w fun e w' => e = .returned (.int .i64 18) ∧ w = w'
  go_enter Try.func13, Try.ntmps13
  go_wp2
  go_ret
  exact ⟨rfl, rfl⟩
theorem room4 : RoomIs 4 2 := fun w => by
  show Calls Try.prog 13 #[.int .i64 4] w fun e w' => e = .returned (.int .i64 2) ∧ w = w'
  go_enter Try.func13, Try.ntmps13
  go_wp2
  go_ret
  exact ⟨rfl, rfl⟩
theorem room3 : RoomIs 3 1 := fun w => by
  show Calls Try.prog 13 #[.int .i64 3] w fun e w' => e = .returned (.int .i64 1) ∧ w = w'
  go_enter Try.func13, Try.ntmps13
  go_wp2
  go_ret
  exact ⟨rfl, rfl⟩
theorem room40 : RoomIs 40 37 := fun w => by
  show Calls Try.prog 13 #[.int .i64 40] w fun e w' => e = .returned (.int .i64 37) ∧ w = w'
  go_enter Try.func13, Try.ntmps13
  go_wp2
  go_ret
  exact ⟨rfl, rfl⟩
theorem room2 : RoomIs 2 0 := fun w => by
  show Calls Try.prog 13 #[.int .i64 2] w fun e w' => e = .returned (.int .i64 0) ∧ w = w'
  go_enter Try.func13, Try.ntmps13
  go_wp2
  go_ret
  exact ⟨rfl, rfl⟩
theorem lists_one (n : Nat) (h1 : 1 ≤ n) (h2 : n ≤ 32) (w : World) : Calls Try.prog 37 #[.int .i64 (n : Int)] w fun e w' => e = .returned (.int .i64 1) ∧ w = w' := by
  go_enter Try.func37, Try.ntmps37
  go_wp2
  go_ret
  exact ⟨ret_int (by omega), rfl⟩

/-! ### other -/
def otherB (n a z : Nat) (i : Int) : Bool := decide (0 ≤ i ∧ i < (n : Int) ∧ (i < (a : Int) ∨ (a : Int) + (z : Int) ≤ i))
set_option maxRecDepth 100000 in
set_option maxHeartbeats 1000000 in
theorem other_any {w : World} {d l m : Nat} {s : Dk.St} (h : DiskAt w d l m s) (a z : Nat) (ha : a ≤ 1000) (hz : z ≤ 1000) (i : Int) :
    Calls Try.prog 28 #[regV d a z, .int .i64 i] w fun e w' => e = .returned (.bool (otherB s.last.length a z i)) ∧ Below w.heap.size w w' := by
  have HD := Lib.hid (pages_any (h.alloc (.cells #[.pointer (some ⟨d, 0, none⟩), .int .i64 (a : Int), .int .i64 (z : Int)] 61)))
  have hsm := h.ok.small
  clear h
  unfold regV
  generalize s.last.length = n at HD hsm ⊢
  by_cases c1 : 0 ≤ i
  · by_cases c2 : i < (n : Int)
    · by_cases c3 : i < (a : Int)
      · go_enter Try.func28, Try.ntmps28
        go_wp2_with (go_at_call 16; refine HD.out.mono ?_; rintro e w' ⟨rfl, rfl⟩)
        go_ret
        exact ⟨ret_bool (by unfold otherB; symm; rw [decide_eq_true_iff]; omega), (Below.refl _ _).alloc (Nat.le_refl _) _⟩
      · go_enter Try.func28, Try.ntmps28
        go_wp2_with (go_at_call 16; refine HD.out.mono ?_; rintro e w' ⟨rfl, rfl⟩)
        go_ret
        exact ⟨ret_bool (by unfold otherB; rw [← Bool.decide_or, decide_eq_decide]; omega), (Below.refl _ _).alloc (Nat.le_refl _) _⟩
    · go_enter Try.func28, Try.ntmps28
      go_wp2_with (go_at_call 16; refine HD.out.mono ?_; rintro e w' ⟨rfl, rfl⟩)
      go_ret
      exact ⟨ret_bool (by unfold otherB; symm; rw [decide_eq_false_iff_not]; omega), (Below.refl _ _).alloc (Nat.le_refl _) _⟩
  · go_enter Try.func28, Try.ntmps28
    go_wp2_with fail
    go_ret
    exact ⟨ret_bool (by unfold otherB; symm; rw [decide_eq_false_iff_not]; omega), (Below.refl _ _).alloc (Nat.le_refl _) _⟩
end Go.Proofs.Ytlamllnflbdcjaa
