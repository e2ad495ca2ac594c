/-
  The contracts of the document's own Get and Set, and of the two comparers.
-/
import Derived.Test.YtjjejdjhlnlhiaaBset
namespace Go.Proofs.Ytjjejdjhlnlhiaa
open Go.RowKit

set_option maxRecDepth 100000 in
set_option maxHeartbeats 400000 in
theorem refget_no (i : Int) (A : Option Addr) (n c : Nat) (w : World) (hn : n ≤ 1000) (hm : i ≤ 9223372036854775807) (h : ¬ (0 ≤ i ∧ i < (n : Int) * 512)) :
    Calls Try.prog 9 #[.slice A n c, .int .i64 i] w fun e w' => e = .returned (.bool false) ∧ w = w' := by
  by_cases c1 : i < 0
  · go_enter Try.func9, Try.ntmps9
    go_wp2
    go_ret
    exact ⟨rfl, rfl⟩
  · obtain ⟨k, rfl⟩ := Int.eq_ofNat_of_zero_le (show 0 ≤ i by omega)
    have c2 : n ≤ k / 512 := by omega
    clear h
    go_enter Try.func9, Try.ntmps9
    go_wp2
    go_ret
    exact ⟨rfl, rfl⟩
set_option maxRecDepth 100000 in
set_option maxHeartbeats 400000 in
theorem refget_yes (i : Nat) (b off n c : Nat) (bs : List UInt8) (w : World) (hn : n ≤ 1000) (h : i < n * 512)
    (hc : ∀ j, j < 64 * n → w.cell? ⟨b, off + j, none⟩ = some (.int .u8 ((bs.getD j 0).toNat : Int))) :
    Calls Try.prog 9 #[.slice (some ⟨b, off, none⟩) n c, .int .i64 (i : Int)] w fun e w' => e = .returned (.bool (Bt.bit bs i)) ∧ w = w' := by
  have hb := Row.byte hc i h
  clear hc
  have hx := (bs.getD (i / 8) 0).toNat_lt
  have HB : Hid (Bt.bit bs i = decide ((bs.getD (i / 8) 0).toNat / 2 ^ (i % 8) % 2 = 1)) := Lib.hid (by
    unfold Bt.bit
    have := Bt.half_bit (bs.getD (i / 8) 0).toNat (i % 8)
    cases hq : (bs.getD (i / 8) 0).toNat.testBit (i % 8) <;> simp_all)
  generalize (bs.getD (i / 8) 0).toNat = x at hb hx HB
  have hq1 : i / 512 < n := by omega
  have hq2 : i % 512 / 8 < 64 := by omega
  go_enter Try.func9, Try.ntmps9
  go_wp2
  go_loop [5, 6] (fun y k => ∃ j : Nat, j ≤ i % 8 ∧ k = .int .i64 (j : Int) ∧ y = .int .i64 ((x / 2 ^ j : Nat) : Int)) (fun _ k => i % 8 - (intOf k).toNat)
  case atStart => exact ⟨0, Nat.zero_le _, rfl, by simp⟩
  case round =>
    obtain ⟨j, hj, rfl, rfl⟩ := hrel
    have hle : x / 2 ^ j ≤ x := Nat.div_le_self _ _
    have HS : Hid (x / 2 ^ (j + 1) = x / 2 ^ j / 2) := Lib.hid (by rw [Nat.pow_succ, Nat.div_div_eq_div_mul])
    by_cases hlt : j < i % 8
    · generalize x / 2 ^ j = y at HS hle
      go_wp2
      go_round
      case rel => exact ⟨j + 1, by omega, by go_num, by rw [HS.out]; rfl⟩
      case measure => simp [intOf]; omega
    · obtain rfl : j = i % 8 := by omega
      generalize x / 2 ^ (i % 8) = y at HS hle HB
      go_wp2
      go_ret
      refine ⟨ret_bool ?_, rfl⟩
      rw [HB.out]
      clear HB HS hb
      rw [Bool.eq_iff_iff, beq_iff_eq, decide_eq_true_iff]
      omega
theorem refget_any (i : Int) (A : Option Addr) (n c : Nat) (bs : List UInt8) (w : World) (h : Row w A n bs) (hn : n ≤ 1000) (hm : i ≤ 9223372036854775807) :
    Calls Try.prog 9 #[.slice A n c, .int .i64 i] w fun e w' => e = .returned (.bool (Bt.getB bs i)) ∧ w = w' := by
  by_cases hi : 0 ≤ i ∧ i < (n : Int) * 512
  · obtain ⟨k, rfl⟩ := Int.eq_ofNat_of_zero_le hi.1
    obtain ⟨b, off, rfl, _, hc⟩ := h.cells (by omega)
    rw [Bt.getB_nat]
    exact refget_yes k b off n c bs w hn (by omega) hc
  · rw [Bt.getB_no bs n h.len i hi]
    exact refget_no i A n c w hn hm hi
set_option maxRecDepth 100000 in
set_option maxHeartbeats 1000000 in
theorem refset_nil (i : Int) (on1 : Bool) (w : World) (hm : i ≤ 9223372036854775807) :
    Calls Try.prog 11 #[.slice none 0 0, .int .i64 i, .bool on1] w fun e w' => ∃ v, e = .returned v ∧ OwnB w' w.heap.size v 0 [] ∧ Below w.heap.size w w' := by
  by_cases c1 : i < 0
  · go_enter Try.func11, Try.ntmps11
    go_wp2_with (at_builtin; go_must (with_reducible refine wpList_copy_none ?_ (.tmp 10) (.tmp 11) ?_ ?_ ?_ ?_); (exact rfl); (exact rfl); (exact rfl); (exact rfl); intro v w' h1 h2; obtain ⟨A', c', rfl, _⟩ := OwnB.form h1)
    go_ret
    exact ⟨_, rfl, h1, h2⟩
  · obtain ⟨k, rfl⟩ := Int.eq_ofNat_of_zero_le (show 0 ≤ i by omega)
    have c2 : 0 ≤ k / 512 := Nat.zero_le _
    go_enter Try.func11, Try.ntmps11
    go_wp2_with (at_builtin; go_must (with_reducible refine wpList_copy_none ?_ (.tmp 10) (.tmp 11) ?_ ?_ ?_ ?_); (exact rfl); (exact rfl); (exact rfl); (exact rfl); intro v w' h1 h2; obtain ⟨A', c', rfl, _⟩ := OwnB.form h1)
    go_ret
    exact ⟨_, rfl, h1, h2⟩
set_option maxRecDepth 100000 in
set_option maxHeartbeats 1000000 in
theorem refset_no (i : Int) (on1 : Bool) (ad : Addr) (n c : Nat) (bs : List UInt8) (w : World) (h : Row w (some ad) n bs) (hn : n ≤ 1000) (hm : i ≤ 9223372036854775807) (hi : ¬ (0 ≤ i ∧ i < (n : Int) * 512)) :
    Calls Try.prog 11 #[.slice (some ad) n c, .int .i64 i, .bool on1] w fun e w' => ∃ v, e = .returned v ∧ OwnB w' w.heap.size v n bs ∧ Below w.heap.size w w' := by
  have HR := Lib.hid h; clear h
  by_cases c1 : i < 0
  · clear hi
    go_enter Try.func11, Try.ntmps11
    go_wp2_with (at_builtin; (with_reducible refine wpList_copy (c := c) HR.out hn (Option.some_ne_none ad) ?_ (.tmp 10) (.tmp 11) ?_ ?_ ?_ ?_); (exact rfl); (exact rfl); (exact rfl); (exact rfl); intro v w' h1 h2; obtain ⟨A', c', rfl, _⟩ := OwnB.form h1)
    go_ret
    exact ⟨_, rfl, h1, h2⟩
  · obtain ⟨k, rfl⟩ := Int.eq_ofNat_of_zero_le (show 0 ≤ i by omega)
    have c2 : n ≤ k / 512 := by omega
    clear hi
    go_enter Try.func11, Try.ntmps11
    go_wp2_with (at_builtin; (with_reducible refine wpList_copy (c := c) HR.out hn (Option.some_ne_none ad) ?_ (.tmp 10) (.tmp 11) ?_ ?_ ?_ ?_); (exact rfl); (exact rfl); (exact rfl); (exact rfl); intro v w' h1 h2; obtain ⟨A', c', rfl, _⟩ := OwnB.form h1)
    go_ret
    exact ⟨_, rfl, h1, h2⟩
set_option maxRecDepth 100000 in
set_option maxHeartbeats 1000000 in
theorem refset_same (i : Nat) (on1 : Bool) (ad : Addr) (n c : Nat) (bs : List UInt8) (w : World) (h : Row w (some ad) n bs) (hn : n ≤ 1000) (hi : i < n * 512) (hb : Bt.bit bs i = on1) :
    Calls Try.prog 11 #[.slice (some ad) n c, .int .i64 (i : Int), .bool on1] w fun e w' => ∃ v, e = .returned v ∧ OwnB w' w.heap.size v n bs ∧ Below w.heap.size w w' := by
  have HR := Lib.hid h; clear h
  have HB := Lib.hid hb; clear hb
  have hq1 : i / 512 < n := by omega
  have hi' : (i : Int) ≤ 9223372036854775807 := by omega
  have hbb : (on1 == on1) = true := by simp
  go_enter Try.func11, Try.ntmps11
  go_wp2_with (first
    | (at_builtin; (with_reducible refine wpList_copy (c := c) HR.out hn (Option.some_ne_none ad) ?_ (.tmp 10) (.tmp 11) ?_ ?_ ?_ ?_); (exact rfl); (exact rfl); (exact rfl); (exact rfl); intro v w' h1 h2; obtain ⟨A', c', rfl, _⟩ := OwnB.form h1)
    | (go_at_call 9; refine (refget_any _ _ _ _ _ _ (HR.out.step h2) hn hi').mono ?_; rintro e w' ⟨rfl, rfl⟩; rw [Bt.getB_nat, HB.out]))
  go_ret
  exact ⟨_, rfl, h1, h2⟩
end Go.Proofs.Ytjjejdjhlnlhiaa
