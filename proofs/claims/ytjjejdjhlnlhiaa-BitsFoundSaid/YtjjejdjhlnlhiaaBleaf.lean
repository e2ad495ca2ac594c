/-
  The contracts of bits.isThere, bits.place.
-/
import Derived.Test.YtjjejdjhlnlhiaaBrow
import Derived.BigQuiet
namespace Go.Proofs.Ytjjejdjhlnlhiaa
open Go.RowKit

set_option maxRecDepth 100000 in
set_option maxHeartbeats 400000 in
theorem isThere_yes (i n : Nat) (A : Option Addr) (c : Nat) (w : World) (hn : n ≤ 1000) (h : i < n * 512) :
    Calls Try.prog 19 #[.int .i64 (i : Int), .slice A n c] w fun e w' => e = .returned (.bool true) ∧ w = w' := by
  go_enter Try.func19, Try.ntmps19
  go_wp2
  go_ret
  exact ⟨ret_bool (by simp; omega), rfl⟩
set_option maxRecDepth 100000 in
set_option maxHeartbeats 400000 in
theorem isThere_no (i : Int) (n : Nat) (A : Option Addr) (c : Nat) (w : World) (hn : n ≤ 1000) (h : ¬ (0 ≤ i ∧ i < (n : Int) * 512)) :
    Calls Try.prog 19 #[.int .i64 i, .slice A n c] w fun e w' => e = .returned (.bool false) ∧ w = w' := by
  go_enter Try.func19, Try.ntmps19
  by_cases c1 : 0 ≤ i
  · go_wp2
    go_ret
    exact ⟨ret_bool (by simp; omega), rfl⟩
  · go_wp2
    go_ret
    exact ⟨rfl, rfl⟩
set_option maxRecDepth 100000 in
set_option maxHeartbeats 400000 in
theorem place_any (i : Nat) (w : World) (h : i < 512000) :
    Calls Try.prog 20 #[.int .i64 (i : Int)] w fun e w' => e = .returned (.tuple #[.int .i64 ((i / 512 : Nat) : Int), .int .i64 ((i % 512 / 8 : Nat) : Int), .int .u8 ((Bt.pw (i % 8) : Nat) : Int)]) ∧ ∃ m, w' = w.drewN m := by
  have hr : Hid ((2 ^ (i % 8) : Int) % 256 = ((Bt.pw (i % 8) : Nat) : Int)) := Lib.hid (by
    have hp := Bt.pw_lt (i % 8) (Nat.mod_lt _ (by omega))
    have e : ((Bt.pw (i % 8) : Nat) : Int) = (2 ^ (i % 8) : Int) := by rw [Bt.pw_def]; push_cast; rfl
    rw [← e]; exact Int.emod_eq_of_lt (by omega) (by omega))
  go_enter Try.func20, Try.ntmps20
  go_wp2
  go_quiet (fail)
  go_wp2
  go_ret3
  refine ⟨?_, _, rfl⟩
  simp [hr.out]
/-- the byte of a bit, in memory -/
theorem Row.byte {w : World} {b off n : Nat} {bs : List UInt8} (hc : ∀ j, j < 64 * n → w.cell? ⟨b, off + j, none⟩ = some (.int .u8 ((bs.getD j 0).toNat : Int))) (i : Nat) (h : i < n * 512) :
    w.cell? ⟨b, off + i / 512 * 64 + i % 512 / 8, none⟩ = some (.int .u8 ((bs.getD (i / 8) 0).toNat : Int)) := by
  have e : i / 512 * 64 + i % 512 / 8 = i / 8 := by omega
  have := hc (i / 8) (by omega)
  rw [Nat.add_assoc, e]; exact this
set_option maxRecDepth 100000 in
set_option maxHeartbeats 400000 in
theorem get_no (i : Int) (A : Option Addr) (n c : Nat) (w : World) (hn : n ≤ 1000) (h : ¬ (0 ≤ i ∧ i < (n : Int) * 512)) :
    Calls Try.prog 8 #[.int .i64 i, .slice A n c] w fun e w' => e = .returned (.bool false) ∧ ∃ m, w' = w.drewN m := by
  have HH := Lib.hid h; clear h
  go_enter Try.func8, Try.ntmps8
  go_wp2_with (go_at_call 19; refine (isThere_no _ _ _ _ _ hn HH.out).mono ?_; rintro e w' ⟨rfl, rfl⟩)
  go_ret
  exact ⟨rfl, 0, rfl⟩
set_option maxRecDepth 100000 in
set_option maxHeartbeats 400000 in
theorem get_yes (i : Nat) (b off n c : Nat) (bs : List UInt8) (w : World) (hn : n ≤ 1000) (h : i < n * 512)
    (hc : ∀ j, j < 64 * n → w.cell? ⟨b, off + j, none⟩ = some (.int .u8 ((bs.getD j 0).toNat : Int))) :
    Calls Try.prog 8 #[.int .i64 (i : Int), .slice (some ⟨b, off, none⟩) n c] w fun e w' => e = .returned (.bool (Bt.bit bs i)) ∧ ∃ m, w' = w.drewN m := by
  have hb := Row.byte hc i h
  clear hc
  have hi : i < 512000 := by omega
  have hx := (bs.getD (i / 8) 0).toNat_lt
  have hp := Bt.pw_lt (i % 8) (Nat.mod_lt _ (by omega))
  have HB : Hid (Bt.bit bs i = !decide ((bs.getD (i / 8) 0).toNat &&& Bt.pw (i % 8) = 0)) := Lib.hid (by
    unfold Bt.bit
    rw [Bt.pw_def]
    have := Bt.and_bit (bs.getD (i / 8) 0).toNat (i % 8)
    cases hq : (bs.getD (i / 8) 0).toNat.testBit (i % 8) <;> simp_all)
  generalize (bs.getD (i / 8) 0).toNat = x at hb hx HB
  have hq1 : i / 512 < n := by omega
  have hq2 : i % 512 / 8 < 64 := by omega
  go_enter Try.func8, Try.ntmps8
  go_wp2_with (first | (go_at_call 19; refine (isThere_yes _ _ _ _ _ hn h).mono ?_; rintro e w' ⟨rfl, rfl⟩) | (go_at_call 20; refine (place_any _ _ hi).mono ?_; rintro e w' ⟨rfl, m, rfl⟩))
  go_ret
  refine ⟨ret_bool ?_, _, rfl⟩
  rw [HB.out, u8_and_nat _ _ hx hp]
  cases hz : decide (x &&& Bt.pw (i % 8) = 0) <;> simp_all
theorem get_any (i : Int) (A : Option Addr) (n c : Nat) (bs : List UInt8) (w : World) (h : Row w A n bs) (hn : n ≤ 1000) :
    Calls Try.prog 8 #[.int .i64 i, .slice A n c] w fun e w' => e = .returned (.bool (Bt.getB bs i)) ∧ ∃ m, w' = w.drewN m := by
  by_cases hi : 0 ≤ i ∧ i < (n : Int) * 512
  · obtain ⟨k, rfl⟩ := Int.eq_ofNat_of_zero_le hi.1
    obtain ⟨b, off, rfl, _, hc⟩ := h.cells (by omega)
    rw [Bt.getB_nat]
    exact get_yes k b off n c bs w hn (by omega) hc
  · rw [Bt.getB_no bs n h.len i hi]
    exact get_no i A n c w hn hi
end Go.Proofs.Ytjjejdjhlnlhiaa
