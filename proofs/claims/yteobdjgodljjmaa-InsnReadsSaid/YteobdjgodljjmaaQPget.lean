/-
  The contract of page.Get.
-/
import Derived.Test.YteobdjgodljjmaaQPleaf
namespace Go.Proofs.Yteobdjgodljjmaa.Pq
open Go.RowKit
open Dk (zeros zeros_length)

set_option maxRecDepth 100000 in
theorem wraps_i64 (n : Int) (h₀ : 0 ≤ n) (h₁ : n < 2 ^ 62) : IntKind.i64.wrap n = n := by rw [IntKind.wrap_i64]; omega
set_option maxRecDepth 100000 in
theorem or_low (n c : Int) (h0 : 0 ≤ n) (h1 : n < 16777216) (h2 : 0 ≤ c) (h3 : c < 256) : bits BinOp.or IntKind.i64 (n * 256) c = n * 256 + c :=
  bits_join .i64 62 (by decide) wraps_i64 8 (n * 256) c (by omega) (by omega) (by omega) h2 (by omega) (by omega)
set_option maxRecDepth 100000 in
theorem take_one {α : Type} (l : List α) (d : α) (k : Nat) (h : k < l.length) : l.take (k + 1) = l.take k ++ [l.getD k d] := by
  rw [List.take_succ_eq_append_getElem h, List.getD_eq_getElem?_getD, List.getElem?_eq_getElem h]; rfl

set_option maxRecDepth 100000 in
set_option maxHeartbeats 1000000 in
theorem get_yes (p : List UInt8) (a n : Nat) (w : World) (hp : p.length = 64) (h1 : 1 ≤ n) (h2 : n ≤ 4) (h3 : a + n ≤ 64) :
    Calls Try.prog 38 #[pageV p, .int .i64 (a : Int), .int .i64 (n : Int)] w fun e w' => e = .returned (.int .i64 (Pg.numOf ((p.drop a).take n))) ∧ Below w.heap.size w w' := by
  have HP := Lib.hid (pageAt_new w p 67 hp)
  have HL : Hid (((p.drop a).take n).length = n) := Lib.hid (by simp [hp]; omega)
  have HB : Hid (Below w.heap.size w (w.alloc (.cells (byteVals p).toArray 67))) := Lib.hid ((Below.refl _ _).alloc (Nat.le_refl _) _)
  have HN : Hid (Pg.numB (a : Int) (n : Int) = true) := Lib.hid (Pg.num_mk (by omega) (by omega) (by omega) (by omega))
  have HG : Hid (∀ k, k < n → ((p.drop a).take n).getD k 0 = p.getD (a + k) 0) := Lib.hid (fun k hk => by
    rw [List.getD_eq_getElem?_getD, List.getD_eq_getElem?_getD, List.getElem?_take, if_pos hk, List.getElem?_drop])
  clear hp
  generalize (p.drop a).take n = l at HL HG ⊢
  have HS := run_slice_page (w.alloc (.cells (byteVals p).toArray 67)) w.heap.size a n h1 h3
  unfold pageV
  go_enter Try.func38, Try.ntmps38
  go_wp2_with (go_at_call 41; refine (holds_yes _ _ _ HN.out).mono ?_; rintro e w' ⟨rfl, rfl⟩)
  clear HS
  generalize w.alloc (.cells (byteVals p).toArray 67) = w1 at HP HB ⊢
  go_loop [7, 20] (fun x i => ∃ k : Nat, k ≤ n ∧ i = .int .i64 k ∧ x = .int .i64 (Pg.numOf (l.take k))) (fun _ i => n - (intOf i).toNat)
  case atStart => exact ⟨0, Nat.zero_le _, rfl, rfl⟩
  case round =>
    obtain ⟨k, hk, rfl, rfl⟩ := hrel
    by_cases hlt : k < n
    · have HT : Hid (Pg.numOf (l.take (k + 1)) = Pg.numOf (l.take k) * 256 + ((p.getD (a + k) 0).toNat : Int)) := Lib.hid (by
        rw [take_one l 0 k (by rw [HL.out]; exact hlt), Pg.numOf_snoc, HG.out k hlt])
      have hc := HP.out.cell (a + k) (by omega)
      obtain ⟨r1, r2⟩ := Pg.numOf_small (l.take k) (by simp; omega)
      have hb := (p.getD (a + k) 0).toNat_lt
      have ho := or_low (Pg.numOf (l.take k)) ((p.getD (a + k) 0).toNat : Int) r1 r2 (by omega) (by omega)
      generalize p.getD (a + k) 0 = c at hc HT hb ho
      generalize Pg.numOf (l.take k) = x at r1 r2 HT ho ⊢
      go_wp2
      go_round
      case rel => exact ⟨k + 1, by omega, by go_num, by rw [HT.out]⟩
      case measure => simp [intOf]; omega
    · have HK : Hid (l.take k = l) := Lib.hid (List.take_of_length_le (by rw [HL.out]; omega))
      go_wp2
      go_ret
      exact ⟨ret_int (by rw [HK.out]), HB.out⟩

set_option maxRecDepth 100000 in
set_option maxHeartbeats 400000 in
theorem get_no (p : List UInt8) (a n : Int) (w : World) (h1 : -9223372036854775808 ≤ n) (h2 : n ≤ 9223372036854775807) (h : Pg.numB a n = false) :
    Calls Try.prog 38 #[pageV p, .int .i64 a, .int .i64 n] w fun e w' => e = .returned (.int .i64 0) ∧ Below w.heap.size w w' := by
  have HN := Lib.hid h; clear h
  unfold pageV
  go_enter Try.func38, Try.ntmps38
  go_wp2_with (go_at_call 41; refine (holds_no _ _ _ h1 h2 HN.out).mono ?_; rintro e w' ⟨rfl, rfl⟩)
  go_ret
  exact ⟨rfl, (Below.refl _ _).alloc (Nat.le_refl _) _⟩

set_option maxRecDepth 100000 in
theorem get_any (p : List UInt8) (a n : Int) (w : World) (hp : p.length = 64) (h1 : -9223372036854775808 ≤ n) (h2 : n ≤ 9223372036854775807) :
    Calls Try.prog 38 #[pageV p, .int .i64 a, .int .i64 n] w fun e w' => e = .returned (.int .i64 (Pg.getN p a n)) ∧ Below w.heap.size w w' := by
  by_cases h : Pg.numB a n = true
  · obtain ⟨c1, c2, c3, c4⟩ := Pg.num_yes h
    obtain ⟨A, rfl⟩ := Int.eq_ofNat_of_zero_le c3
    obtain ⟨N, rfl⟩ := Int.eq_ofNat_of_zero_le (show 0 ≤ n by omega)
    have := get_yes p A N w hp (by omega) (by omega) (by omega)
    unfold Pg.getN
    rw [if_pos h]
    exact this
  · have hf : Pg.numB a n = false := by simpa using h
    have := get_no p a n w h1 h2 hf
    unfold Pg.getN
    rw [if_neg h]
    exact this
end Go.Proofs.Yteobdjgodljjmaa.Pq
