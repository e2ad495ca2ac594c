/-
  The contract of hook.spread: a number into eight bytes, the highest first.
-/
import Derived.Test.YthccgfnoolbiiaaHbuf
namespace Go.Proofs.Ythccgfnoolbiiaa
open Go.RowKit Go.Maps Pq

theorem pow_byte (k : Nat) : (2 : Int) ^ (8 * k) = 256 ^ k := by rw [Int.pow_mul]; rfl
theorem byte_set (v : Int) (k : Nat) : v / 2 ^ (8 * k) % 256 = ((Pg.byteAt k v).toNat : Int) := by rw [Pg.byteAt_nat, pow_byte]
theorem BufAt.number {w : World} {b : Nat} {p : List UInt8} {j k : Nat} {v : Int} (hp : p.length = 16) (h : BufAt w b (Pg.over p (j + 1) (Pg.bytesN k v))) (hj : j + 1 + k ≤ 16) :
    BufAt (w.setCell ⟨b, j, none⟩ (.int .u8 ((Pg.byteAt k v).toNat : Int))) b (Pg.over p j (Pg.bytesN (k + 1) v)) := by
  have := h.set j (Pg.byteAt k v) (by omega)
  rw [Pg.over_set_before _ _ _ _ (by rw [Pg.bytesN_length]; omega)] at this
  exact this
set_option maxRecDepth 100000 in
set_option maxHeartbeats 1000000 in
theorem spread_any (b o c : Nat) (p : List UInt8) (v : Int) (w : World) (h : BufAt w b p) (ho : o + 8 ≤ 16) :
    Calls Try.prog 24 #[.slice (some ⟨b, o, none⟩) 8 c, .int .i64 v] w fun e w' => e = .returned (.tuple #[]) ∧ BufAt w' b (Pg.over p o (Pg.bytesN 8 v)) ∧ Below b w w' := by
  have HP := Lib.hid h
  have HL := Lib.hid h.len
  clear h
  go_enter Try.func24, Try.ntmps24
  go_wp2
  go_loopw [7] (fun i wr => ∃ k : Nat, k ≤ 8 ∧ i = .int .i64 k ∧ Hid (BufAt wr b (Pg.over p (o + 8 - k) (Pg.bytesN k v))) ∧ Below b w wr) (fun i _ => 8 - (intOf i).toNat)
  case atStart => exact ⟨0, Nat.zero_le _, rfl, Lib.hid (by rw [Pg.bytesN, Pg.over_nil]; exact HP.out), Below.refl _ _⟩
  case round =>
    obtain ⟨k, hk, rfl, hp1, hbel⟩ := hrel
    by_cases hlt : k < 8
    · have hj16 : o + (7 - k) < 16 := by omega
      have hc := hp1.out.cell (o + (7 - k)) hj16
      have hf := hp1.out.frozen (o + (7 - k)) hj16
      have HV := Lib.hid (byte_set v k)
      rw [Nat.mul_comm] at HV
      have HO := Lib.hid ho
      go_wp2
      go_roundw
      case rel =>
        refine ⟨k + 1, by omega, by go_num, Lib.hid ?_, ?_⟩
        · rw [HV.out, show o + 8 - (k + 1) = o + (7 - k) by have := HO.out; omega]
          refine BufAt.number HL.out ?_ (by have := HO.out; omega)
          rw [show o + (7 - k) + 1 = o + 8 - k by have := HO.out; omega]
          exact hp1.out
        · exact hbel.setCell (Nat.le_refl _) _
      case measure => simp [intOf]; omega
    · obtain rfl : k = 8 := by omega
      have HQ := Lib.hid hp1.out
      rw [Nat.add_sub_cancel] at HQ
      clear hp1
      go_wp2
      go_end0
      exact ⟨rfl, HQ.out, hbel⟩
end Go.Proofs.Ythccgfnoolbiiaa
