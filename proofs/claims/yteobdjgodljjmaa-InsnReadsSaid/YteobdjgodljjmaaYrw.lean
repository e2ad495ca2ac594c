/-
  The walks of InsnReads and InsnCuts, over what the project's functions have to give.
-/
import Derived.Test.YteobdjgodljjmaaYbw
namespace Go.Proofs.Yteobdjgodljjmaa
open Go.RowKit Go.Maps

theorem reads_no {s : ByteArray} (h : Y.reads s.data.toList = false) {w w' : World} {e : Ending} (g : DecGive s w e w') : ∃ A c, e = .returned (.tuple #[.slice A 0 c, .int .i64 22]) ∧ Below w.heap.size w w' := by
  unfold DecGive at g; rw [if_neg (by rw [h]; decide)] at g; exact g
theorem reads_yes {s : ByteArray} (h : Y.reads s.data.toList = true) {w w' : World} {e : Ending} (g : DecGive s w e w') : ∃ A c, e = .returned (.tuple #[.slice A (s.size / 8) c, .int .i64 0]) ∧ InsAt w' A (s.size / 8) (Y.read s.data.toList) ∧ Below w.heap.size w w' := by
  unfold DecGive at g; rw [if_pos h] at g; exact g
/-- Read: its second answer, whatever it is -/
theorem rread_no {s : ByteArray} (h : Y.reads s.data.toList = false) {w w' : World} {e : Ending} (g : ReadGive s w e w') : ∃ A n c, e = .returned (.tuple #[.slice A n c, .bool false]) ∧ Below w.heap.size w w' := by
  unfold ReadGive at g
  unfold Y.reads at h
  cases hf : Y.fits s.data.toList with
  | true =>
    rw [hf] at h g
    simp only [Bool.true_and] at h
    rw [if_pos rfl, h] at g
    obtain ⟨A, c, e1, _, hb⟩ := g
    exact ⟨A, _, c, e1, hb⟩
  | false =>
    rw [hf, if_neg (by decide)] at g
    exact ⟨none, 0, 0, g.1, g.2⟩
theorem rread_yes {s : ByteArray} (h : Y.reads s.data.toList = true) {w w' : World} {e : Ending} (g : ReadGive s w e w') : ∃ A c, e = .returned (.tuple #[.slice A (s.size / 8) c, .bool true]) ∧ InsAt w' A (s.size / 8) (Y.read s.data.toList) ∧ Below w.heap.size w w' := by
  unfold ReadGive at g
  unfold Y.reads at h
  rw [Bool.and_eq_true] at h
  rw [if_pos h.1, h.2] at g
  exact g
theorem fits_of {s : List UInt8} (h : Y.reads s = true) : s.length % 8 = 0 ∧ s.length ≤ 512 := by
  unfold Y.reads Y.fits at h
  rw [Bool.and_eq_true] at h
  exact of_decide_eq_true h.1
set_option maxRecDepth 100000 in
set_option maxHeartbeats 2000000 in
theorem readsw_no (hE : EncodeC) (hD : DecodeC) (s : ByteArray) (w : World) (hn : s.size ≤ 2000) (hr : Y.reads s.data.toList = false) :
    Calls Try.prog 4 #[.string s] w fun e w' => e = .returned (.bool true) ∧ Below w.heap.size w w' := by
  have HA := Lib.hid (fun w => awake_any hE w)
  have HD : Hid (∀ w, Calls Try.prog 12 #[.string s] w fun e w' => ∃ A c, e = .returned (.tuple #[.slice A 0 c, .int .i64 22]) ∧ Below w.heap.size w w') := Lib.hid (fun w => (hD s w (by omega)).mono fun e w' g => reads_no hr g)
  have HR : Hid (∀ w, Calls Try.prog 15 #[.string s] w fun e w' => ∃ A n c, e = .returned (.tuple #[.slice A n c, .bool false]) ∧ Below w.heap.size w w') := Lib.hid (fun w => (rread_any s w (by omega)).mono fun e w' g => rread_no hr g)
  clear hE hD hr
  go_enter Try.func4, Try.ntmps4
  go_wp2_with (first
    | (go_at_call 7; (with_reducible refine (HA.out _).mono ?_); rintro e w1 ⟨rfl, hb⟩; have B := Lib.hid hb; clear hb)
    | (go_at_call 12; (with_reducible refine (HD.out _).mono ?_); rintro e w2 ⟨A1, c1, rfl, hb⟩; replace B := Lib.hid (B.out.trans (hb.mono B.out.size)); clear hb)
    | (go_at_call 15; (with_reducible refine (HR.out _).mono ?_); rintro e w3 ⟨A2, n2, c2, rfl, hb⟩; replace B := Lib.hid (B.out.trans (hb.mono B.out.size)); clear hb))
  go_ret
  exact ⟨rfl, B.out⟩
set_option maxRecDepth 100000 in
set_option maxHeartbeats 2000000 in
theorem readsw_yes (hE : EncodeC) (hD : DecodeC) (s : ByteArray) (w : World) (hn : s.size ≤ 2000) (hr : Y.reads s.data.toList = true) :
    Calls Try.prog 4 #[.string s] w fun e w' => e = .returned (.bool true) ∧ Below w.heap.size w w' := by
  have hf := fits_of hr
  have hl : s.data.toList.length = s.size := rfl
  rw [hl] at hf
  obtain ⟨xs, hx⟩ : ∃ xs, xs = Y.read s.data.toList := ⟨_, rfl⟩
  have hxa : Y.all xs = true := by rw [hx]; unfold Y.reads at hr; rw [Bool.and_eq_true] at hr; exact hr.2
  have hxl : xs.length = s.size / 8 := by rw [hx]; unfold Y.read; rw [readN_length, hl]
  have hxb : strOf (Y.bytes xs) = s := by rw [hx, Y.bytes_read _ (by rw [hl]; exact hf.1)]; exact strOf_bytes s
  have HA := Lib.hid (fun w => awake_any hE w)
  have HD : Hid (∀ w, Calls Try.prog 12 #[.string s] w fun e w' => ∃ A c, e = .returned (.tuple #[.slice A (s.size / 8) c, .int .i64 0]) ∧ InsAt w' A (s.size / 8) xs ∧ Below w.heap.size w w') := Lib.hid (fun w => (hD s w (by omega)).mono fun e w' g => by rw [hx]; exact reads_yes hr g)
  have HR : Hid (∀ w, Calls Try.prog 15 #[.string s] w fun e w' => ∃ A c, e = .returned (.tuple #[.slice A (s.size / 8) c, .bool true]) ∧ InsAt w' A (s.size / 8) xs ∧ Below w.heap.size w w') := Lib.hid (fun w => (rread_any s w (by omega)).mono fun e w' g => by rw [hx]; exact rread_yes hr g)
  have hn8 : s.size / 8 ≤ 64 := by omega
  obtain ⟨n, hnn⟩ : ∃ n, n = s.size / 8 := ⟨_, rfl⟩
  rw [← hnn] at HD HR hn8 hxl
  have HP := Lib.hid (fun A1 c1 w h => plainL.plain_any A1 n c1 xs w h (by omega))
  have HE := Lib.hid (fun A1 c1 w h => hE A1 n c1 xs w h (by unfold maxLen; omega))
  have HS := Lib.hid (fun A1 c1 A2 c2 w h g => rsame_any A1 A2 n n c1 c2 xs xs w h g (by omega) (by omega))
  rw [decide_eq_true (rfl : xs = xs)] at HS
  rw [(encT_yes hxa).1, (encT_yes hxa).2, hxb] at HE
  clear hE hD hr hf hl hx hxa hxl hxb hnn
  go_enter Try.func4, Try.ntmps4
  go_wp2_with (first
    | (go_at_call 7; (with_reducible refine (HA.out _).mono ?_); rintro e w1 ⟨rfl, hb⟩; have B := Lib.hid hb; clear hb)
    | (go_at_call 12; (with_reducible refine (HD.out _).mono ?_); rintro e w2 ⟨A1, c1, rfl, hi, hb⟩; replace B := Lib.hid (B.out.trans (hb.mono B.out.size)); have D := Lib.hid hi; clear hb hi)
    | (go_at_call 15; (with_reducible refine (HR.out _).mono ?_); rintro e w3 ⟨A2, c2, rfl, hi, hb⟩; replace B := Lib.hid (B.out.trans (hb.mono B.out.size)); replace D := Lib.hid (D.out.step hb); have P := Lib.hid hi; clear hb hi)
    | (go_at_call 10; (with_reducible refine (HE.out _ _ _ D.out).mono ?_); rintro e w4 ⟨rfl, hb⟩; replace B := Lib.hid (B.out.trans (hb.mono B.out.size)); replace D := Lib.hid (D.out.step hb); replace P := Lib.hid (P.out.step hb); clear hb)
    | (go_at_call 8; (with_reducible refine (HP.out _ _ _ D.out).mono ?_); rintro e w8 ⟨A3, c3, rfl, hi, hb⟩; replace B := Lib.hid (B.out.trans (hb.mono B.out.size)); replace P := Lib.hid (P.out.step hb); have P2 := Lib.hid hi; clear hb hi)
    | (go_at_call 14; (with_reducible refine (HS.out _ _ _ _ _ P2.out P.out).mono ?_); rintro e w9 ⟨rfl, hb⟩; replace B := Lib.hid (B.out.trans (hb.mono B.out.size)); clear hb))
  go_ret
  exact ⟨rfl, B.out⟩
set_option maxHeartbeats 1000000 in
theorem readsw_many (hE : EncodeC) (s : ByteArray) (w : World) (hn : 2000 < s.size) :
    Calls Try.prog 4 #[.string s] w fun e w' => e = .returned (.bool true) ∧ Below w.heap.size w w' := by
  have HA := Lib.hid (fun w => awake_any hE w)
  clear hE
  go_enter Try.func4, Try.ntmps4
  go_wp2_with (go_at_call 7; (with_reducible refine (HA.out _).mono ?_); rintro e w1 ⟨rfl, hb⟩; have B := Lib.hid hb; clear hb)
  go_ret
  exact ⟨rfl, B.out⟩
theorem reads_walk (hE : EncodeC) (hD : DecodeC) (s : ByteArray) (w : World) :
    Calls Try.prog 4 #[.string s] w fun e w' => e = .returned (.bool true) ∧ Below w.heap.size w w' := by
  by_cases hn : s.size ≤ 2000
  · cases ha : Y.reads s.data.toList with
    | true => exact readsw_yes hE hD s w hn ha
    | false => exact readsw_no hE hD s w hn ha
  · exact readsw_many hE s w (by omega)

/-! ### InsnCuts -/
theorem InsAt.take {w : World} {A : Option Addr} {n : Nat} {xs : List Y.In} (h : InsAt w A n xs) (k : Nat) (hk : k ≤ n) : InsAt w A k (xs.take k) := ⟨by rw [List.length_take, h.len]; omega, ⟨fun h0 => by
  obtain ⟨b, off, e, hb, hc⟩ := h.rows.cells (by rw [List.length_map, List.length_take] at h0; rw [List.length_map]; omega)
  refine ⟨b, off, e, hb, fun i r hi => hc i r ?_⟩
  rw [List.map_take, List.getElem?_take] at hi
  split at hi
  · exact hi
  · cases hi⟩⟩
theorem InsAt.drop {w : World} {b off n : Nat} {xs : List Y.In} (h : InsAt w (some ⟨b, off, none⟩) n xs) (k : Nat) (hk : k < n) : InsAt w (some ⟨b, off + k * 5, none⟩) (n - k) (xs.drop k) := ⟨by rw [List.length_drop, h.len], ⟨fun h0 => by
  obtain ⟨b', off', e, hb, hc⟩ := h.rows.cells (by rw [List.length_map, h.len]; omega)
  injection e with e
  injection e with e1 e2
  subst e1 e2
  refine ⟨b, off + k * 5, rfl, hb, fun i r hi => ?_⟩
  rw [List.map_drop, List.getElem?_drop] at hi
  have := hc (k + i) r hi
  rwa [show off + (k + i) * 5 = off + k * 5 + i * 5 by omega] at this⟩⟩
theorem all_cut {xs : List Y.In} (h : Y.all xs = true) (k : Nat) (h1 : 1 ≤ k) (h2 : k < xs.length) : Y.all (xs.take k) = true ∧ Y.all (xs.drop k) = true := by
  have hl := Y.all_len h
  unfold Y.all at h ⊢
  rw [Bool.and_eq_true] at h
  have ha := List.all_eq_true.1 h.1
  refine ⟨?_, ?_⟩
  · rw [Bool.and_eq_true, List.all_eq_true, List.length_take]
    exact ⟨fun x hx => ha x (List.mem_of_mem_take hx), decide_eq_true (by omega)⟩
  · rw [Bool.and_eq_true, List.all_eq_true, List.length_drop]
    exact ⟨fun x hx => ha x (List.mem_of_mem_drop hx), decide_eq_true (by omega)⟩
theorem cut_bytes (xs : List Y.In) (k : Nat) : strOf (Y.bytes xs) = strOf (Y.bytes (xs.take k)) ++ strOf (Y.bytes (xs.drop k)) := by
  rw [← strOf_app, ← Y.bytes_app, List.take_append_drop]
theorem odd_no (s : ByteArray) (k : Nat) (h : s.size = 8 * k + 3) : Y.reads s.data.toList = false := by
  cases hr : Y.reads s.data.toList with
  | false => rfl
  | true =>
    have := (fits_of hr).1
    have hl : s.data.toList.length = s.size := rfl
    omega
end Go.Proofs.Yteobdjgodljjmaa
