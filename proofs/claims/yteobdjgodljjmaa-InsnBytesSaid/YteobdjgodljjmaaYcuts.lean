/-
  The walk of InsnCuts, over what the project's functions have to give.
-/
import Derived.Test.YteobdjgodljjmaaYrw
namespace Go.Proofs.Yteobdjgodljjmaa
open Go.RowKit Go.Maps

set_option maxRecDepth 100000 in
set_option maxHeartbeats 2000000 in
theorem cuts_no (hE : EncodeC) (hR : RightC) (A : Option Addr) (n c : Nat) (xs : List Y.In) (k : Int) (w : World) (h : InsAt w A n xs) (hn : n ≤ maxLen) (ha : Y.all xs = false) :
    Calls Try.prog 6 #[.slice A n c, .int .i64 k] w fun e w' => e = .returned (.bool true) ∧ Below w.heap.size w w' := by
  have H0 := Lib.hid h
  have HA := Lib.hid (fun w => awake_any hE w)
  have HR := Lib.hid (fun w h => hR A n c xs w h hn)
  rw [ha] at HR
  clear hE hR h ha hn
  go_enter Try.func6, Try.ntmps6
  go_wp2_with (first
    | (go_at_call 7; (with_reducible refine (HA.out _).mono ?_); rintro e w1 ⟨rfl, hb⟩; have B := Lib.hid hb; clear hb)
    | (go_at_call 11; (with_reducible refine (HR.out _ (H0.out.step B.out)).mono ?_); rintro e w5 ⟨rfl, hb⟩; replace B := Lib.hid (B.out.trans (hb.mono B.out.size)); clear hb))
  go_ret
  exact ⟨rfl, B.out⟩
set_option maxRecDepth 100000 in
set_option maxHeartbeats 2000000 in
theorem cuts_out (hE : EncodeC) (hR : RightC) (A : Option Addr) (n c : Nat) (xs : List Y.In) (k : Int) (w : World) (h : InsAt w A n xs) (hn : n ≤ maxLen) (ha : Y.all xs = true) (hk : k < 1 ∨ (n : Int) ≤ k) :
    Calls Try.prog 6 #[.slice A n c, .int .i64 k] w fun e w' => e = .returned (.bool true) ∧ Below w.heap.size w w' := by
  have H0 := Lib.hid h
  have HA := Lib.hid (fun w => awake_any hE w)
  have HR := Lib.hid (fun w h => hR A n c xs w h hn)
  rw [ha] at HR
  clear hE hR h ha hn
  by_cases h1 : k < 1
  · clear hk
    go_enter Try.func6, Try.ntmps6
    go_wp2_with (first
      | (go_at_call 7; (with_reducible refine (HA.out _).mono ?_); rintro e w1 ⟨rfl, hb⟩; have B := Lib.hid hb; clear hb)
      | (go_at_call 11; (with_reducible refine (HR.out _ (H0.out.step B.out)).mono ?_); rintro e w5 ⟨rfl, hb⟩; replace B := Lib.hid (B.out.trans (hb.mono B.out.size)); clear hb))
    go_ret
    exact ⟨rfl, B.out⟩
  · have h2 : (n : Int) ≤ k := by omega
    clear hk
    go_enter Try.func6, Try.ntmps6
    go_wp2_with (first
      | (go_at_call 7; (with_reducible refine (HA.out _).mono ?_); rintro e w1 ⟨rfl, hb⟩; have B := Lib.hid hb; clear hb)
      | (go_at_call 11; (with_reducible refine (HR.out _ (H0.out.step B.out)).mono ?_); rintro e w5 ⟨rfl, hb⟩; replace B := Lib.hid (B.out.trans (hb.mono B.out.size)); clear hb))
    go_ret
    exact ⟨rfl, B.out⟩
set_option maxRecDepth 100000 in
set_option maxHeartbeats 4000000 in
theorem cuts_in (hE : EncodeC) (hR : RightC) (hD : DecodeC) (b off n c : Nat) (xs : List Y.In) (k : Nat) (w : World) (h : InsAt w (some ⟨b, off, none⟩) n xs) (hc : n ≤ c) (hcm : c ≤ maxLen) (ha : Y.all xs = true) (hk1 : 1 ≤ k) (hk2 : k < n) :
    Calls Try.prog 6 #[.slice (some ⟨b, off, none⟩) n c, .int .i64 (k : Int)] w fun e w' => e = .returned (.bool true) ∧ Below w.heap.size w w' := by
  have hl := h.len
  have hn64 := (Y.all_len ha).2
  rw [hl] at hn64
  have hcut := all_cut ha k hk1 (by omega)
  have H0 := Lib.hid h
  have H1 := Lib.hid (h.take k (by omega))
  have H2 := Lib.hid (h.drop k hk2)
  have HA := Lib.hid (fun w => awake_any hE w)
  have HR := Lib.hid (fun w h => hR (some ⟨b, off, none⟩) n c xs w h (by omega))
  have HE := Lib.hid (fun w h => hE (some ⟨b, off, none⟩) n c xs w h (by omega))
  have HE1 := Lib.hid (fun w h => hE (some ⟨b, off, none⟩) k c (xs.take k) w h (by omega))
  have HE2 := Lib.hid (fun w h => hE (some ⟨b, off + k * 5, none⟩) (n - k) (c - k) (xs.drop k) w h (by omega))
  have HD : Hid (∀ z w, z.size = 8 * k + 3 → Calls Try.prog 12 #[.string z] w fun e w' => ∃ A c, e = .returned (.tuple #[.slice A 0 c, .int .i64 22]) ∧ Below w.heap.size w w') := Lib.hid (fun z w hz => (hD z w (by omega)).mono fun e w' g => reads_no (odd_no z k hz) g)
  rw [(encT_yes ha).1, (encT_yes ha).2, cut_bytes xs k] at HE
  rw [(encT_yes hcut.1).1, (encT_yes hcut.1).2] at HE1
  rw [(encT_yes hcut.2).1, (encT_yes hcut.2).2] at HE2
  rw [ha] at HR
  have hs1 : (strOf (Y.bytes (xs.take k))).size = 8 * k := by rw [strOf_size, Y.bytes_length, List.length_take]; omega
  have hs2 : (strOf (Y.bytes (xs.drop k))).size = 8 * (n - k) := by rw [strOf_size, Y.bytes_length, List.length_drop]; omega
  generalize strOf (Y.bytes (xs.take k)) = p at HE HE1 hs1
  generalize strOf (Y.bytes (xs.drop k)) = q at HE HE2 hs2
  have HPS := Lib.hid (show (p ++ q).size = 8 * n by rw [ByteArray.size_append]; omega)
  obtain ⟨t, ht⟩ : ∃ t, t = p ++ q := ⟨_, rfl⟩
  rw [← ht] at HPS HE
  have HT := Lib.hid ht
  have hz1 : 8 * n ≤ t.size := by rw [HPS.out]; omega
  have hz2 : t.size ≤ 8 * n := by rw [HPS.out]; omega
  have hb1 : p.size ≤ 512 := by omega
  have hb2 : q.size ≤ 512 := by omega
  have hkc : ¬ (c = k) := by omega
  have hteq : (t.toList == (p ++ q).toList) = true := by rw [HT.out]; simp
  unfold maxLen at hcm
  clear hE hR hD h ha hcut hl hs1 hs2 ht
  go_enter Try.func6, Try.ntmps6
  go_wp2_with (first
    | (go_at_call 7; (with_reducible refine (HA.out _).mono ?_); rintro e w1 ⟨rfl, hb⟩; have B := Lib.hid hb; clear hb)
    | (go_at_call 11; (with_reducible refine (HR.out _ (H0.out.step B.out)).mono ?_); rintro e w5 ⟨rfl, hb⟩; replace B := Lib.hid (B.out.trans (hb.mono B.out.size)); clear hb)
    | (go_at_call 10; (with_reducible refine (HE.out _ (H0.out.step B.out)).mono ?_); rintro e w5 ⟨rfl, hb⟩; replace B := Lib.hid (B.out.trans (hb.mono B.out.size)); clear hb)
    | (go_at_call 10; (with_reducible refine (HE1.out _ (H1.out.step B.out)).mono ?_); rintro e w5 ⟨rfl, hb⟩; replace B := Lib.hid (B.out.trans (hb.mono B.out.size)); clear hb)
    | (go_at_call 10; (with_reducible refine (HE2.out _ (H2.out.step B.out)).mono ?_); rintro e w5 ⟨rfl, hb⟩; replace B := Lib.hid (B.out.trans (hb.mono B.out.size)); clear hb)
    | (go_at_call 12; (with_reducible refine (HD.out _ _ ?_).mono ?_); (rw [ByteArray.size_extract]; omega); rintro e w5 ⟨A5, c5, rfl, hb⟩; replace B := Lib.hid (B.out.trans (hb.mono B.out.size)); clear hb))
  go_ret
  exact ⟨rfl, B.out⟩
theorem cuts_walk (hE : EncodeC) (hR : RightC) (hD : DecodeC) (A : Option Addr) (n c : Nat) (xs : List Y.In) (k : Int) (w : World) (h : InsAt w A n xs) (hc : n ≤ c) (hcm : c ≤ maxLen) :
    Calls Try.prog 6 #[.slice A n c, .int .i64 k] w fun e w' => e = .returned (.bool true) ∧ Below w.heap.size w w' := by
  cases ha : Y.all xs with
  | false => exact cuts_no hE hR A n c xs k w h (by omega) ha
  | true =>
    by_cases hk : k < 1 ∨ (n : Int) ≤ k
    · exact cuts_out hE hR A n c xs k w h (by omega) ha hk
    · obtain ⟨j, rfl⟩ : ∃ j : Nat, k = (j : Int) := ⟨k.toNat, by omega⟩
      obtain ⟨b, off, x, rfl, _, _, _⟩ := h.get j (by omega)
      exact cuts_in hE hR hD b off n c xs j w h hc hcm ha (by omega) (by omega)
end Go.Proofs.Yteobdjgodljjmaa
