/-
  The contract of hook.Unpack.
-/
import Derived.Test.YthccgfnoolbiiaaHspread
import Derived.Test.YthccgfnoolbiiaaHpack
namespace Go.Proofs.Ythccgfnoolbiiaa
open Go.RowKit Go.Maps Pq

namespace Hk
theorem bytesN_at : ∀ (k : Nat) (n : Int) (i : Nat), i < k → (Pg.bytesN k n)[i]? = some (Pg.byteAt (k - 1 - i) n)
  | 0, _, i, h => absurd h (Nat.not_lt_zero _)
  | k + 1, n, i, h => by
    rw [Pg.bytesN]
    cases i with
    | zero => rw [List.getElem?_cons_zero, show k + 1 - 1 - 0 = k by omega]
    | succ i => rw [List.getElem?_cons_succ, bytesN_at k n i (by omega), show k + 1 - 1 - (i + 1) = k - 1 - i by omega]
theorem byte_us (j : Nat) (v : Int) (h : j < 8) : (v / 256 ^ j % 256).toNat = us v / 256 ^ j % 256 := by
  unfold us
  have : j = 0 ∨ j = 1 ∨ j = 2 ∨ j = 3 ∨ j = 4 ∨ j = 5 ∨ j = 6 ∨ j = 7 := by omega
  rcases this with rfl | rfl | rfl | rfl | rfl | rfl | rfl | rfl
  all_goals
    simp only [Nat.reducePow, Int.reducePow, Int.pow_zero, Nat.pow_zero]
    omega
theorem bytesN8 (v : Int) : Pg.bytesN 8 v = bytes8 v := by
  apply List.ext_getElem?
  intro i
  by_cases hi : i < 8
  · unfold bytes8
    rw [bytesN_at 8 v i hi, dig_at 8 (us v) i hi, ← byte_us (8 - 1 - i) v (by omega)]
    rfl
  · rw [List.getElem?_eq_none (by rw [Pg.bytesN_length]; omega), List.getElem?_eq_none (by rw [bytes8_length]; omega)]
theorem over_two (a b : Int) : Pg.over (Pg.over zero16 0 (Pg.bytesN 8 a)) 8 (Pg.bytesN 8 b) = bytes16 a b := by
  rw [bytesN8, bytesN8]
  unfold bytes16
  have ha := bytes8_length a
  have hb := bytes8_length b
  have h1 : Pg.over zero16 0 (bytes8 a) = bytes8 a ++ zero16.drop 8 := by
    unfold Pg.over
    rw [List.take_zero, List.nil_append, Nat.zero_add, ha]
  rw [h1]
  unfold Pg.over
  rw [List.take_append_of_le_length (by rw [ha]; exact Nat.le_refl _), List.take_of_length_le (by rw [ha]; exact Nat.le_refl _), hb, List.drop_of_length_le (by rw [List.length_append, ha, List.length_drop, zero16_length]; exact Nat.le_refl _), List.append_nil]
def unpacks (a b n : Int) : List UInt8 := if n < 0 ∨ 16 < n then [] else (bytes16 a b).take n.toNat
end Hk
/-- bytes of a buffer as a text, from its beginning on -/
theorem run_conv_buf {w : World} {b : Nat} {p : List UInt8} (h : BufAt w b p) (n : Nat) (hn : n ≤ 16) :
    (convert 36 9 (.slice (some ⟨b, 0, none⟩) n 16)).run Try.prog w = .ok (.string (strOf (p.take n))) w := by
  obtain ⟨S, hS, hc⟩ := run_text h 0 n (by omega)
  have e := run_sliceAt_array_lh (P := Try.prog) w 37 ⟨b, 0, none⟩ underP .i64 .i64 ((0 : Nat) : Int) (((0 : Nat) : Int) + (n : Int)) (by omega) (by omega) (by rw [arrP]; omega)
  rw [elemP, run_size8, arrP, Result.andThen_ok] at e
  unfold slicedAt at e
  rw [show (((0 : Nat) : Int) + (n : Int)).toNat = n by omega, show (((0 : Nat) : Int)).toNat = 0 from rfl, if_neg (by omega), Nat.zero_mul, Addr.add_mid] at e
  rw [e] at hS
  injection hS with hS
  rw [← hS] at hc
  exact hc
set_option maxRecDepth 100000 in
set_option maxHeartbeats 1000000 in
theorem unpack_yes (a b : Int) (n : Nat) (w : World) (h : n ≤ 16) :
    Calls Try.prog 21 #[.int .i64 a, .int .i64 b, .int .i64 (n : Int)] w fun e w' => e = .returned (.string (strOf ((Hk.bytes16 a b).take n))) ∧ Below w.heap.size w w' := by
  have hs := bufAt_zeros w 37
  rw [zeroCells_def] at hs
  have S := Lib.hid (PackS.mk hs ((Below.refl w.heap.size w).alloc (Nat.le_refl _) _))
  clear hs
  have hT := Hk.over_two a b
  obtain ⟨q, hq⟩ : ∃ q, Hk.bytes16 a b = q := ⟨_, rfl⟩
  obtain ⟨y, hy⟩ : ∃ y, strOf (q.take n) = y := ⟨_, rfl⟩
  obtain ⟨p1, hp1⟩ : ∃ p1, Pg.over zero16 0 (Pg.bytesN 8 a) = p1 := ⟨_, rfl⟩
  obtain ⟨p0, hp0⟩ : ∃ p0, zero16 = p0 := ⟨_, rfl⟩
  obtain ⟨ya, hya⟩ : ∃ ya, Pg.bytesN 8 a = ya := ⟨_, rfl⟩
  obtain ⟨yb, hyb⟩ : ∃ yb, Pg.bytesN 8 b = yb := ⟨_, rfl⟩
  have HSA := Lib.hid (fun (w : World) (hb : BufAt w w.heap.size p0) => True.intro)
  rw [hp1, hq] at hT
  rw [hq, hy]
  rw [hp0] at hp1 S
  rw [hya] at hp1
  rw [hyb] at hT
  have HT := Lib.hid hT
  have HY := Lib.hid hy
  have HP1 := Lib.hid hp1
  have HA := Lib.hid hya
  have HBb := Lib.hid hyb
  clear hT hq hy hp1 hp0 HSA hya hyb
  go_enter Try.func21, Try.ntmps21
  go_wp2_with fail
  refine (spread_any w.heap.size 0 16 p0 a _ S.out.buf (by omega)).mono ?_
  rintro e w2 ⟨rfl, hb1, hl1⟩
  rw [HA.out, HP1.out] at hb1
  replace S := Lib.hid (PackS.mk hb1 (S.out.bel.trans hl1))
  clear hb1 hl1
  go_wp2_with fail
  refine (spread_any w.heap.size 8 8 _ b _ S.out.buf (by omega)).mono ?_
  rintro e w3 ⟨rfl, hb1, hl1⟩
  rw [HBb.out, HT.out] at hb1
  replace S := Lib.hid (PackS.mk hb1 (S.out.bel.trans hl1))
  have hcv := run_conv_buf hb1 n h
  rw [HY.out] at hcv
  have hsl := run_slice_buf_to w3 w.heap.size n h
  clear hb1 hl1
  go_wp2
  go_ret
  exact ⟨rfl, S.out.bel⟩
set_option maxRecDepth 100000 in
set_option maxHeartbeats 1000000 in
theorem unpack_no (a b n : Int) (w : World) (h : n < 0 ∨ 16 < n) :
    Calls Try.prog 21 #[.int .i64 a, .int .i64 b, .int .i64 n] w fun e w' => e = .returned (.string ⟨#[]⟩) ∧ Below w.heap.size w w' := by
  go_enter Try.func21, Try.ntmps21
  by_cases h1 : n < 0
  · go_wp2
    go_ret
    exact ⟨rfl, Below.refl _ _⟩
  · have h2 : 16 < n := by omega
    go_wp2
    go_ret
    exact ⟨rfl, Below.refl _ _⟩
theorem unpack_any (a b n : Int) (w : World) :
    Calls Try.prog 21 #[.int .i64 a, .int .i64 b, .int .i64 n] w fun e w' => e = .returned (.string (strOf (Hk.unpacks a b n))) ∧ Below w.heap.size w w' := by
  unfold Hk.unpacks
  by_cases h : n < 0 ∨ 16 < n
  · rw [if_pos h]; exact unpack_no a b n w h
  · rw [if_neg h]
    obtain ⟨N, rfl⟩ := Int.eq_ofNat_of_zero_le (show 0 ≤ n by omega)
    exact unpack_yes a b N w (by omega)
end Go.Proofs.Ythccgfnoolbiiaa
