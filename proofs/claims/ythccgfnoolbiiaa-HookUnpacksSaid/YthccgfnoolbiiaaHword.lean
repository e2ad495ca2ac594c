/-
  The contract of hook.word: eight bytes as a number, the highest first, as Go's int.
-/
import Derived.Test.YthccgfnoolbiiaaHbuf
namespace Go.Proofs.Ythccgfnoolbiiaa
open Go.RowKit Go.Maps Pq

theorem take_one {α : Type} (l : List α) (d : α) (k : Nat) (h : k < l.length) : l.take (k + 1) = l.take k ++ [l.getD k d] := by
  rw [List.take_succ_eq_append_getElem h, List.getD_eq_getElem?_getD, List.getElem?_eq_getElem h]; rfl
theorem ofInt_wrap (n : Nat) (h : n < 18446744073709551616) : (BitVec.ofInt 64 (wrap64 (n : Int))).toNat = n := by
  unfold wrap64
  rw [BitVec.toNat_ofInt]
  omega
theorem shl_or (x c : Nat) (hx : x < 72057594037927936) (hc : c < 256) : bits BinOp.or IntKind.i64 (wrap64 (Hk.sg x * 256)) (wrap64 (c : Int)) = Hk.sg (x * 256 + c) := by
  have e : Hk.sg x * 256 = ((x * 256 : Nat) : Int) := by unfold Hk.sg; rw [if_pos (by omega)]; omega
  rw [e]
  have eb : ∀ A B : Int, bits BinOp.or IntKind.i64 A B = IntKind.i64.wrap (((BitVec.ofInt 64 A) ||| (BitVec.ofInt 64 B) : BitVec 64).toNat : Int) := fun _ _ => rfl
  rw [eb, BitVec.toNat_or, ofInt_wrap _ (by omega), ofInt_wrap _ (by omega)]
  have h2 : x * 256 ||| c = x * 256 + c := by
    have := Nat.two_pow_add_eq_or_of_lt (i := 8) (b := c) (by omega) x
    rw [show (2 : Nat) ^ 8 = 256 from rfl, Nat.mul_comm 256 x] at this
    exact this.symm
  rw [h2, IntKind.wrap_i64]
  unfold Hk.sg
  split <;> omega
set_option maxRecDepth 100000 in
set_option maxHeartbeats 1000000 in
theorem word_any (b o c : Nat) (p : List UInt8) (w : World) (h : BufAt w b p) (ho : o + 8 ≤ 16) :
    Calls Try.prog 23 #[.slice (some ⟨b, o, none⟩) 8 c] w fun e w' => e = .returned (.int .i64 (Hk.sg (Hk.be ((p.drop o).take 8)))) ∧ w = w' := by
  have HP := Lib.hid h
  have HL : Hid (((p.drop o).take 8).length = 8) := Lib.hid (by have := h.len; simp; omega)
  have HG : Hid (∀ k, k < 8 → ((p.drop o).take 8).getD k 0 = p.getD (o + k) 0) := Lib.hid (fun k hk => by
    rw [List.getD_eq_getElem?_getD, List.getD_eq_getElem?_getD, List.getElem?_take, if_pos hk, List.getElem?_drop])
  clear h
  generalize (p.drop o).take 8 = l at HL HG ⊢
  go_enter Try.func23, Try.ntmps23
  go_wp2
  go_loop [3, 8] (fun x i => ∃ k : Nat, k ≤ 8 ∧ i = .int .i64 k ∧ x = .int .i64 (Hk.sg (Hk.be (l.take k)))) (fun _ i => 8 - (intOf i).toNat)
  case atStart => exact ⟨0, Nat.zero_le _, rfl, rfl⟩
  case round =>
    obtain ⟨k, hk, rfl, rfl⟩ := hrel
    by_cases hlt : k < 8
    · have hc := HP.out.cell (o + k) (by omega)
      have hb := (p.getD (o + k) 0).toNat_lt
      have HT := Lib.hid (take_one l 0 k (by rw [HL.out]; exact hlt))
      have HX : Hid (Hk.be (l.take k) < 72057594037927936) := Lib.hid (by
        have h1 := Hk.be_lt (l.take k)
        rw [List.length_take, HL.out] at h1
        have h2 : 256 ^ min k 8 ≤ 256 ^ 7 := Nat.pow_le_pow_right (by omega) (by omega)
        have h3 : (256 : Nat) ^ 7 = 72057594037927936 := by decide
        omega)
      go_wp2
      go_round
      case rel => exact ⟨k + 1, by omega, by go_num, by rw [HT.out, Hk.be_snoc, HG.out k hlt, ← shl_or _ _ HX.out (p.getD (o + k) 0).toNat_lt, List.getD_eq_getElem?_getD]⟩
      case measure => simp [intOf]; omega
    · have HK : Hid (l.take k = l) := Lib.hid (List.take_of_length_le (by rw [HL.out]; omega))
      go_wp2
      go_ret
      exact ⟨ret_int (by rw [HK.out]), rfl⟩
end Go.Proofs.Ythccgfnoolbiiaa
