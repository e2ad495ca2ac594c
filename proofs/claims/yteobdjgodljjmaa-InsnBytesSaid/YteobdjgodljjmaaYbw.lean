/-
  The walks of InsnBytes and InsnReads, over what the project's functions have to give.
-/
import Derived.Test.YteobdjgodljjmaaYsaid
namespace Go.Proofs.Yteobdjgodljjmaa
open Go.RowKit Go.Maps

theorem encT_no {xs : List Y.In} (h : Y.all xs = false) : encT xs = ⟨#[]⟩ ∧ encE xs = 22 := by unfold encT encE; rw [h]; exact ⟨rfl, rfl⟩
theorem encT_yes {xs : List Y.In} (h : Y.all xs = true) : encT xs = strOf (Y.bytes xs) ∧ encE xs = 0 := by unfold encT encE; rw [h]; exact ⟨rfl, rfl⟩
theorem dec_of {xs : List Y.In} (h : Y.all xs = true) {w w' : World} {e : Ending} (g : DecGive (strOf (Y.bytes xs)) w e w') : ∃ A c, e = .returned (.tuple #[.slice A xs.length c, .int .i64 0]) ∧ InsAt w' A xs.length xs ∧ Below w.heap.size w w' := by
  unfold DecGive at g
  obtain ⟨h1, h2⟩ := Y.reads_bytes xs h
  rw [strOf_list, if_pos h1, h2, strOf_size, Y.bytes_length, Nat.mul_div_cancel_left _ (by decide)] at g
  exact g
set_option maxRecDepth 100000 in
set_option maxHeartbeats 2000000 in
theorem bytes_no (hE : EncodeC) (hR : RightC) (A : Option Addr) (n c : Nat) (xs : List Y.In) (w : World) (h : InsAt w A n xs) (hn : n ≤ 100) (ha : Y.all xs = false) :
    Calls Try.prog 3 #[.slice A n c] w fun e w' => e = .returned (.bool true) ∧ Below w.heap.size w w' := by
  have H0 := Lib.hid h
  have HA := Lib.hid (fun w => awake_any hE w)
  have HP := Lib.hid (fun w h => plainL.plain_any A n c xs w h (by omega))
  have HO := Lib.hid (fun A1 c1 w h => rall_any A1 n c1 xs w h (by omega))
  have HE := Lib.hid (fun w h => hE A n c xs w h (by unfold maxLen; omega))
  have HR := Lib.hid (fun w h => hR A n c xs w h (by unfold maxLen; omega))
  rw [(encT_no ha).1, (encT_no ha).2] at HE
  rw [ha] at HO HR
  clear hE hR h ha
  go_enter Try.func3, Try.ntmps3
  go_wp2_with (first
    | (go_at_call 7; (with_reducible refine (HA.out _).mono ?_); rintro e w1 ⟨rfl, hb⟩; have B := Lib.hid hb; clear hb)
    | (go_at_call 8; (with_reducible refine (HP.out _ (H0.out.step B.out)).mono ?_); rintro e w2 ⟨A1, c1, rfl, hi, hb⟩; replace B := Lib.hid (B.out.trans (hb.mono B.out.size)); have P := Lib.hid hi; clear hb hi)
    | (go_at_call 9; (with_reducible refine (HO.out _ _ _ P.out).mono ?_); rintro e w3 ⟨rfl, hb⟩; replace B := Lib.hid (B.out.trans (hb.mono B.out.size)); clear hb)
    | (go_at_call 10; (with_reducible refine (HE.out _ (H0.out.step B.out)).mono ?_); rintro e w4 ⟨rfl, hb⟩; replace B := Lib.hid (B.out.trans (hb.mono B.out.size)); clear hb)
    | (go_at_call 11; (with_reducible refine (HR.out _ (H0.out.step B.out)).mono ?_); rintro e w5 ⟨rfl, hb⟩; replace B := Lib.hid (B.out.trans (hb.mono B.out.size)); clear hb))
  go_ret
  exact ⟨rfl, B.out⟩
set_option maxRecDepth 100000 in
set_option maxHeartbeats 2000000 in
theorem bytes_yes (hE : EncodeC) (hR : RightC) (hD : DecodeC) (A : Option Addr) (n c : Nat) (xs : List Y.In) (w : World) (h : InsAt w A n xs) (hn : n ≤ 100) (ha : Y.all xs = true) :
    Calls Try.prog 3 #[.slice A n c] w fun e w' => e = .returned (.bool true) ∧ Below w.heap.size w w' := by
  have H0 := Lib.hid h
  have hl := h.len
  have HA := Lib.hid (fun w => awake_any hE w)
  have HP := Lib.hid (fun A1 c1 w h => plainL.plain_any A1 n c1 xs w h (by omega))
  have HO := Lib.hid (fun A1 c1 w h => rall_any A1 n c1 xs w h (by omega))
  have HE := Lib.hid (fun w h => hE A n c xs w h (by unfold maxLen; omega))
  have HR := Lib.hid (fun w h => hR A n c xs w h (by unfold maxLen; omega))
  have HD : Hid (∀ w, Calls Try.prog 12 #[.string (strOf (Y.bytes xs))] w fun e w' => ∃ A1 c1, e = .returned (.tuple #[.slice A1 n c1, .int .i64 0]) ∧ InsAt w' A1 n xs ∧ Below w.heap.size w w') := Lib.hid (fun w => (hD (strOf (Y.bytes xs)) w (by rw [strOf_size, Y.bytes_length]; omega)).mono fun e w' g => by have := dec_of ha g; rw [hl] at this; exact this)
  have HB := Lib.hid (fun A1 c1 w h => rbytes_any A1 n c1 xs w h (by omega) (Y.all_bd ha))
  have HS := Lib.hid (fun A1 c1 A2 c2 w h g => rsame_any A1 A2 n n c1 c2 xs xs w h g (by omega) (by omega))
  rw [decide_eq_true (rfl : xs = xs)] at HS
  rw [(encT_yes ha).1, (encT_yes ha).2] at HE
  rw [ha] at HO HR
  generalize strOf (Y.bytes xs) = t at HE HD HB
  clear hE hR hD h ha hl
  go_enter Try.func3, Try.ntmps3
  go_wp2_with (first
    | (go_at_call 7; (with_reducible refine (HA.out _).mono ?_); rintro e w1 ⟨rfl, hb⟩; have B := Lib.hid hb; clear hb)
    | (go_at_call 8; (with_reducible refine (HP.out _ _ _ (H0.out.step B.out)).mono ?_); rintro e w2 ⟨A1, c1, rfl, hi, hb⟩; replace B := Lib.hid (B.out.trans (hb.mono B.out.size)); have P := Lib.hid hi; clear hb hi)
    | (go_at_call 8; (with_reducible refine (HP.out _ _ _ D.out).mono ?_); rintro e w8 ⟨A3, c3, rfl, hi, hb⟩; replace B := Lib.hid (B.out.trans (hb.mono B.out.size)); replace P := Lib.hid (P.out.step hb); have P2 := Lib.hid hi; clear hb hi)
    | (go_at_call 9; (with_reducible refine (HO.out _ _ _ P.out).mono ?_); rintro e w3 ⟨rfl, hb⟩; replace B := Lib.hid (B.out.trans (hb.mono B.out.size)); replace P := Lib.hid (P.out.step hb); clear hb)
    | (go_at_call 10; (with_reducible refine (HE.out _ (H0.out.step B.out)).mono ?_); rintro e w4 ⟨rfl, hb⟩; replace B := Lib.hid (B.out.trans (hb.mono B.out.size)); replace P := Lib.hid (P.out.step hb); clear hb)
    | (go_at_call 11; (with_reducible refine (HR.out _ (H0.out.step B.out)).mono ?_); rintro e w5 ⟨rfl, hb⟩; replace B := Lib.hid (B.out.trans (hb.mono B.out.size)); replace P := Lib.hid (P.out.step hb); clear hb)
    | (go_at_call 12; (with_reducible refine (HD.out _).mono ?_); rintro e w6 ⟨A2, c2, rfl, hi, hb⟩; replace B := Lib.hid (B.out.trans (hb.mono B.out.size)); replace P := Lib.hid (P.out.step hb); have D := Lib.hid hi; clear hb hi)
    | (go_at_call 13; (with_reducible refine (HB.out _ _ _ P.out).mono ?_); rintro e w7 ⟨rfl, hb⟩; replace B := Lib.hid (B.out.trans (hb.mono B.out.size)); replace P := Lib.hid (P.out.step hb); replace D := Lib.hid (D.out.step hb); clear hb)
    | (go_at_call 14; (with_reducible refine (HS.out _ _ _ _ _ P2.out P.out).mono ?_); rintro e w9 ⟨rfl, hb⟩; replace B := Lib.hid (B.out.trans (hb.mono B.out.size)); clear hb))
  go_ret
  exact ⟨rfl, B.out⟩
set_option maxHeartbeats 1000000 in
theorem bytes_many (hE : EncodeC) (A : Option Addr) (n c : Nat) (w : World) (hn : 100 < n) :
    Calls Try.prog 3 #[.slice A n c] w fun e w' => e = .returned (.bool true) ∧ Below w.heap.size w w' := by
  have HA := Lib.hid (fun w => awake_any hE w)
  clear hE
  go_enter Try.func3, Try.ntmps3
  go_wp2_with (go_at_call 7; (with_reducible refine (HA.out _).mono ?_); rintro e w1 ⟨rfl, hb⟩; have B := Lib.hid hb; clear hb)
  go_ret
  exact ⟨rfl, B.out⟩
theorem bytes_walk (hE : EncodeC) (hR : RightC) (hD : DecodeC) (A : Option Addr) (n c : Nat) (xs : List Y.In) (w : World) (h : InsAt w A n xs) :
    Calls Try.prog 3 #[.slice A n c] w fun e w' => e = .returned (.bool true) ∧ Below w.heap.size w w' := by
  by_cases hn : n ≤ 100
  · cases ha : Y.all xs with
    | true => exact bytes_yes hE hR hD A n c xs w h hn ha
    | false => exact bytes_no hE hR A n c xs w h hn ha
  · exact bytes_many hE A n c w (by omega)
end Go.Proofs.Yteobdjgodljjmaa
