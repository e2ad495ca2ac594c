/-
  The contract of the document's Pack.
-/
import Derived.Test.YthccgfnoolbiiaaHbuf
import Derived.Test.YthccgfnoolbiiaaAstill
namespace Go.Proofs.Ythccgfnoolbiiaa
open Go.RowKit Go.Maps Pq

namespace Hk
def na (s : List UInt8) (k : Nat) : Nat := be (cut s 0 (min k 8))
def nb (s : List UInt8) (k : Nat) : Nat := be (cut s 8 (k - 8))
theorem cut_lt (s : List UInt8) (i k : Nat) (h : k < 8) : be (cut s i k) < 72057594037927936 := by
  have h1 := be_lt (cut s i k)
  rw [cut_length] at h1
  have h2 : 256 ^ k ≤ 256 ^ 7 := Nat.pow_le_pow_right (by omega) (by omega)
  have h3 : (256 : Nat) ^ 7 = 72057594037927936 := by decide
  omega
theorem na_lt (s : List UInt8) (k : Nat) (h : k < 8) : na s k < 72057594037927936 := cut_lt _ _ _ (by omega)
theorem nb_lt (s : List UInt8) (k : Nat) (h : k < 16) : nb s k < 72057594037927936 := cut_lt _ _ _ (by omega)
theorem na_lo (s : List UInt8) (k : Nat) (h : k < 8) : na s (k + 1) = na s k * 256 + (at0 s k).toNat := by
  unfold na
  rw [show min (k + 1) 8 = k + 1 by omega, show min k 8 = k by omega, be_cut, Nat.zero_add]
theorem nb_lo (s : List UInt8) (k : Nat) (h : k < 8) : nb s (k + 1) = nb s k := by
  unfold nb
  rw [show k + 1 - 8 = 0 by omega, show k - 8 = 0 by omega]
theorem na_hi (s : List UInt8) (k : Nat) (h : 8 ≤ k) : na s (k + 1) = na s k := by
  unfold na
  rw [show min (k + 1) 8 = 8 by omega, show min k 8 = 8 by omega]
theorem nb_hi (s : List UInt8) (k : Nat) (h : 8 ≤ k) : nb s (k + 1) = nb s k * 256 + (at0 s k).toNat := by
  unfold nb
  rw [show k + 1 - 8 = (k - 8) + 1 by omega, be_cut, show 8 + (k - 8) = k by omega]
theorem at0_get (s : ByteArray) (k : Nat) (h : k < s.size) : at0 s.data.toList k = s[k] := by
  unfold at0
  rw [List.getD_eq_getElem?_getD, Array.getElem?_toList, Array.getElem?_eq_getElem h]; rfl
theorem at0_out (s : ByteArray) (k : Nat) (h : s.size ≤ k) : (at0 s.data.toList k).toNat = 0 := by
  unfold at0
  rw [List.getD_eq_getElem?_getD, Array.getElem?_toList, Array.getElem?_eq_none h]; rfl
end Hk
theorem RowAt.set {w : World} {b : Nat} {vs : List Value} (h : RowAt w b vs) (i : Nat) (v : Value) (hi : i < vs.length) : RowAt (w.setCell ⟨b, i, none⟩ v) b (vs.set i v) where
  range := fun j u hu => by
    rw [Nat.zero_add]
    rw [List.getElem?_set] at hu
    by_cases e : i = j
    · subst e
      rw [if_pos rfl, if_pos hi] at hu
      injection hu with hu
      rw [← hu]
      exact World.cell?_setCell_same' _ _ _ (by rw [h.cell i _ (List.getElem?_eq_getElem hi)]; rfl)
    · rw [if_neg e] at hu
      rw [World.cell?_setCell_other _ _ _ _ (fun q => e (by injection q))]
      exact h.cell j u hu
  free := fun j hj => by
    rw [Nat.zero_add]
    rw [List.length_set] at hj
    refine ⟨?_, by rw [World.frozen?_setCell]; exact h.frozen j hj⟩
    by_cases e : i = j
    · subst e
      rw [World.cell?_setCell_same' _ _ _ (by rw [h.cell i _ (List.getElem?_eq_getElem hi)]; rfl)]; rfl
    · rw [World.cell?_setCell_other _ _ _ _ (fun q => e (by injection q)), h.cell j _ (List.getElem?_eq_getElem hj)]; rfl
theorem Hk.conv_sg (n : Nat) (h : n < 18446744073709551616) : IntKind.i64.wrap (n : Int) = Hk.sg n := by
  rw [IntKind.wrap_i64]; unfold Hk.sg; split <;> omega
def u64L (a b : Nat) : List Value := [.int .u64 (a : Int), .int .u64 (b : Int)]
set_option maxRecDepth 100000 in
set_option maxHeartbeats 2000000 in
theorem rpack_yes (s : ByteArray) (w : World) (h : s.size ≤ 16) :
    Calls Try.prog 20 #[.string s] w fun e w' => e = .returned (.tuple #[.int .i64 (Hk.w0 s.data.toList), .int .i64 (Hk.w1 s.data.toList)]) ∧ Below w.heap.size w w' := by
  obtain ⟨a, hA⟩ : ∃ a, Hk.na s.data.toList 16 = a := ⟨_, rfl⟩
  obtain ⟨b, hB⟩ : ∃ b, Hk.nb s.data.toList 16 = b := ⟨_, rfl⟩
  have e0 : Hk.w0 s.data.toList = Hk.sg a := by rw [← hA]; rfl
  have e1 : Hk.w1 s.data.toList = Hk.sg b := by rw [← hB]; rfl
  have ha : a < 18446744073709551616 := by rw [← hA]; exact Hk.be8_lt _ _
  have hb : b < 18446744073709551616 := by rw [← hB]; exact Hk.be8_lt _ _
  have ca := Lib.hid (Hk.conv_sg a ha)
  have cb := Lib.hid (Hk.conv_sg b hb)
  rw [e0, e1]
  have HA := Lib.hid hA
  have HB := Lib.hid hB
  clear e0 e1 ha hb hA hB
  have S0 := Lib.hid (rowAt_new w (u64L (Hk.na s.data.toList 0) (Hk.nb s.data.toList 0)) 39)
  have B0 : Hid (Below w.heap.size w (w.alloc (.cells #[.int .u64 0, .int .u64 0] 39))) := Lib.hid ((Below.refl _ _).alloc (Nat.le_refl _) _)
  go_enter Try.func20, Try.ntmps20
  go_wp2
  go_loopw [5] (fun i wr => ∃ k : Nat, k ≤ 16 ∧ i = .int .i64 (k : Int) ∧ Hid (RowAt wr w.heap.size (u64L (Hk.na s.data.toList k) (Hk.nb s.data.toList k))) ∧ Hid (Below w.heap.size w wr)) (fun i _ => 16 - (intOf i).toNat)
  case atStart => exact ⟨0, by omega, rfl, S0, B0⟩
  case round =>
    obtain ⟨k, hk, rfl, S, B⟩ := hrel
    clear S0 B0
    by_cases hlt : k < 16
    · by_cases h8 : k < 8
      · have hd : (k : Int) / 8 = 0 := by omega
        obtain ⟨X, hX⟩ : ∃ X : Nat, X = Hk.na s.data.toList k * 256 := ⟨_, rfl⟩
        have HX := Lib.hid hX
        have hlim := Hk.na_lt s.data.toList k (by omega)
        have hwx : IntKind.u64.wrap ((Hk.na s.data.toList k : Int) * 256) = (X : Int) := by rw [IntKind.wrap_u64]; omega
        have hX2 : X < 18446744073709551361 := by omega
        clear hX hlim
        have hc : wr.cell? ⟨w.heap.size, 0, none⟩ = some (.int .u64 (Hk.na s.data.toList k)) := S.out.cell 0 _ rfl
        have hf : wr.frozen? ⟨w.heap.size, 0, none⟩ = false := S.out.frozen 0 (by simp [u64L])
        have S1 := Lib.hid (S.out.set 0 (.int .u64 (X : Int)) (by simp [u64L]))
        have B1 := Lib.hid (B.out.setCell (p := ⟨w.heap.size, 0, none⟩) (Nat.le_refl _) (.int .u64 (X : Int)))
        by_cases hks : k < s.size
        · obtain ⟨x, hx⟩ : ∃ x, s[k]'hks = x := ⟨_, rfl⟩
          have HAT := Lib.hid (Hk.at0_get s k hks)
          rw [hx] at HAT
          have hxl := x.toNat_lt
          go_wp2
          clear hc hf
          generalize wr.setCell ⟨w.heap.size, 0, none⟩ (.int .u64 (X : Int)) = W1 at S1 B1 ⊢
          have hc : W1.drew.cell? ⟨w.heap.size, 0, none⟩ = some (.int .u64 (X : Int)) := S1.out.drew.cell 0 _ rfl
          have hf : W1.drew.frozen? ⟨w.heap.size, 0, none⟩ = false := S1.out.drew.frozen 0 (by simp [u64L])
          have hadd : IntKind.u64.wrap ((X : Int) + (x.toNat : Int)) = (X : Int) + (x.toNat : Int) := by rw [IntKind.wrap_u64]; omega
          have hcv : IntKind.u64.wrap (x.toNat : Int) = (x.toNat : Int) := by rw [IntKind.wrap_u64]; omega
          refine ws_region 13 (by kernel_rfl) ?_
          simp only [List.take_succ_cons, List.take_zero, List.drop_succ_cons, List.drop_zero]
          refine ws_take (.slice (some ⟨w.heap.size, 0, none⟩) 2 2) (by kernel_rfl) ?_ ?_
          · (go_simp)
          (try simp only [Act.put, List.setIfInBounds_toArray, List.set_cons_zero, List.set_cons_succ])
          refine ws_take (.int .i64 (k : Int)) (by kernel_rfl) ?_ ?_
          · (go_simp)
          (try simp only [Act.put, List.setIfInBounds_toArray, List.set_cons_zero, List.set_cons_succ])
          refine ws_take (.int .i64 0) (by kernel_rfl) ?_ ?_
          · (go_simp; rfl)
          (try simp only [Act.put, List.setIfInBounds_toArray, List.set_cons_zero, List.set_cons_succ])
          refine ws_take (.slice (some ⟨w.heap.size, 0, none⟩) 2 2) (by kernel_rfl) ?_ ?_
          · (go_simp)
          (try simp only [Act.put, List.setIfInBounds_toArray, List.set_cons_zero, List.set_cons_succ])
          refine ws_take (.int .i64 (k : Int)) (by kernel_rfl) ?_ ?_
          · (go_simp)
          (try simp only [Act.put, List.setIfInBounds_toArray, List.set_cons_zero, List.set_cons_succ])
          refine ws_take (.int .i64 0) (by kernel_rfl) ?_ ?_
          · (go_simp; rfl)
          (try simp only [Act.put, List.setIfInBounds_toArray, List.set_cons_zero, List.set_cons_succ])
          refine ws_take (.pointer (some ⟨w.heap.size, 0, none⟩)) (by kernel_rfl) ?_ ?_
          · (go_simp)
          (try simp only [Act.put, List.setIfInBounds_toArray, List.set_cons_zero, List.set_cons_succ])
          refine ws_take (.int .u64 (X : Int)) (by kernel_rfl) ?_ ?_
          · (go_simp)
          (try simp only [Act.put, List.setIfInBounds_toArray, List.set_cons_zero, List.set_cons_succ])
          refine ws_take (.string s) (by kernel_rfl) ?_ ?_
          · (go_simp)
          (try simp only [Act.put, List.setIfInBounds_toArray, List.set_cons_zero, List.set_cons_succ])
          refine ws_take (.int .i64 (k : Int)) (by kernel_rfl) ?_ ?_
          · (go_simp)
          (try simp only [Act.put, List.setIfInBounds_toArray, List.set_cons_zero, List.set_cons_succ])
          refine ws_take (.int .u8 (x.toNat : Int)) (by kernel_rfl) ?_ ?_
          · (go_simp)
          (try simp only [Act.put, List.setIfInBounds_toArray, List.set_cons_zero, List.set_cons_succ])
          refine ws_take (.int .u64 (x.toNat : Int)) (by kernel_rfl) ?_ ?_
          · (go_simp)
          (try simp only [Act.put, List.setIfInBounds_toArray, List.set_cons_zero, List.set_cons_succ])
          refine ws_take (.int .u64 ((X : Int) + (x.toNat : Int))) (by kernel_rfl) ?_ ?_
          · (go_simp)
          (try simp only [Act.put, List.setIfInBounds_toArray, List.set_cons_zero, List.set_cons_succ])
          refine ws_nil ?_
          go_wp2
          go_roundw
          case rel =>
            refine ⟨k + 1, by omega, by go_num, Lib.hid ?_, Lib.hid ?_⟩
            · have S2 := S1.out.drew.set 0 (.int .u64 ((X : Int) + (x.toNat : Int))) (by simp [u64L])
              rw [Hk.na_lo s.data.toList k (by omega), Hk.nb_lo s.data.toList k (by omega), HAT.out, ← HX.out]
              exact S2
            · exact B1.out.drew.setCell (Nat.le_refl _) _
          case measure => (simp [intOf] <;> omega)
        · have HAT := Lib.hid (Hk.at0_out s k (by omega))
          go_wp2
          go_roundw
          case rel =>
            refine ⟨k + 1, by omega, by go_num, Lib.hid ?_, B1⟩
            rw [Hk.na_lo s.data.toList k (by omega), Hk.nb_lo s.data.toList k (by omega), HAT.out, ← HX.out]
            exact S1.out
          case measure => (simp [intOf] <;> omega)
      · have hd : (k : Int) / 8 = 1 := by omega
        obtain ⟨X, hX⟩ : ∃ X : Nat, X = Hk.nb s.data.toList k * 256 := ⟨_, rfl⟩
        have HX := Lib.hid hX
        have hlim := Hk.nb_lt s.data.toList k (by omega)
        have hwx : IntKind.u64.wrap ((Hk.nb s.data.toList k : Int) * 256) = (X : Int) := by rw [IntKind.wrap_u64]; omega
        have hX2 : X < 18446744073709551361 := by omega
        clear hX hlim
        have hc : wr.cell? ⟨w.heap.size, 1, none⟩ = some (.int .u64 (Hk.nb s.data.toList k)) := S.out.cell 1 _ rfl
        have hf : wr.frozen? ⟨w.heap.size, 1, none⟩ = false := S.out.frozen 1 (by simp [u64L])
        have S1 := Lib.hid (S.out.set 1 (.int .u64 (X : Int)) (by simp [u64L]))
        have B1 := Lib.hid (B.out.setCell (p := ⟨w.heap.size, 1, none⟩) (Nat.le_refl _) (.int .u64 (X : Int)))
        by_cases hks : k < s.size
        · obtain ⟨x, hx⟩ : ∃ x, s[k]'hks = x := ⟨_, rfl⟩
          have HAT := Lib.hid (Hk.at0_get s k hks)
          rw [hx] at HAT
          have hxl := x.toNat_lt
          go_wp2
          clear hc hf
          generalize wr.setCell ⟨w.heap.size, 1, none⟩ (.int .u64 (X : Int)) = W1 at S1 B1 ⊢
          have hc : W1.drew.cell? ⟨w.heap.size, 1, none⟩ = some (.int .u64 (X : Int)) := S1.out.drew.cell 1 _ rfl
          have hf : W1.drew.frozen? ⟨w.heap.size, 1, none⟩ = false := S1.out.drew.frozen 1 (by simp [u64L])
          have hadd : IntKind.u64.wrap ((X : Int) + (x.toNat : Int)) = (X : Int) + (x.toNat : Int) := by rw [IntKind.wrap_u64]; omega
          have hcv : IntKind.u64.wrap (x.toNat : Int) = (x.toNat : Int) := by rw [IntKind.wrap_u64]; omega
          refine ws_region 13 (by kernel_rfl) ?_
          simp only [List.take_succ_cons, List.take_zero, List.drop_succ_cons, List.drop_zero]
          refine ws_take (.slice (some ⟨w.heap.size, 0, none⟩) 2 2) (by kernel_rfl) ?_ ?_
          · (go_simp)
          (try simp only [Act.put, List.setIfInBounds_toArray, List.set_cons_zero, List.set_cons_succ])
          refine ws_take (.int .i64 (k : Int)) (by kernel_rfl) ?_ ?_
          · (go_simp)
          (try simp only [Act.put, List.setIfInBounds_toArray, List.set_cons_zero, List.set_cons_succ])
          refine ws_take (.int .i64 1) (by kernel_rfl) ?_ ?_
          · (go_simp; rfl)
          (try simp only [Act.put, List.setIfInBounds_toArray, List.set_cons_zero, List.set_cons_succ])
          refine ws_take (.slice (some ⟨w.heap.size, 0, none⟩) 2 2) (by kernel_rfl) ?_ ?_
          · (go_simp)
          (try simp only [Act.put, List.setIfInBounds_toArray, List.set_cons_zero, List.set_cons_succ])
          refine ws_take (.int .i64 (k : Int)) (by kernel_rfl) ?_ ?_
          · (go_simp)
          (try simp only [Act.put, List.setIfInBounds_toArray, List.set_cons_zero, List.set_cons_succ])
          refine ws_take (.int .i64 1) (by kernel_rfl) ?_ ?_
          · (go_simp; rfl)
          (try simp only [Act.put, List.setIfInBounds_toArray, List.set_cons_zero, List.set_cons_succ])
          refine ws_take (.pointer (some ⟨w.heap.size, 1, none⟩)) (by kernel_rfl) ?_ ?_
          · (go_simp)
          (try simp only [Act.put, List.setIfInBounds_toArray, List.set_cons_zero, List.set_cons_succ])
          refine ws_take (.int .u64 (X : Int)) (by kernel_rfl) ?_ ?_
          · (go_simp)
          (try simp only [Act.put, List.setIfInBounds_toArray, List.set_cons_zero, List.set_cons_succ])
          refine ws_take (.string s) (by kernel_rfl) ?_ ?_
          · (go_simp)
          (try simp only [Act.put, List.setIfInBounds_toArray, List.set_cons_zero, List.set_cons_succ])
          refine ws_take (.int .i64 (k : Int)) (by kernel_rfl) ?_ ?_
          · (go_simp)
          (try simp only [Act.put, List.setIfInBounds_toArray, List.set_cons_zero, List.set_cons_succ])
          refine ws_take (.int .u8 (x.toNat : Int)) (by kernel_rfl) ?_ ?_
          · (go_simp)
          (try simp only [Act.put, List.setIfInBounds_toArray, List.set_cons_zero, List.set_cons_succ])
          refine ws_take (.int .u64 (x.toNat : Int)) (by kernel_rfl) ?_ ?_
          · (go_simp)
          (try simp only [Act.put, List.setIfInBounds_toArray, List.set_cons_zero, List.set_cons_succ])
          refine ws_take (.int .u64 ((X : Int) + (x.toNat : Int))) (by kernel_rfl) ?_ ?_
          · (go_simp)
          (try simp only [Act.put, List.setIfInBounds_toArray, List.set_cons_zero, List.set_cons_succ])
          refine ws_nil ?_
          go_wp2
          go_roundw
          case rel =>
            refine ⟨k + 1, by omega, by go_num, Lib.hid ?_, Lib.hid ?_⟩
            · have S2 := S1.out.drew.set 1 (.int .u64 ((X : Int) + (x.toNat : Int))) (by simp [u64L])
              rw [Hk.na_hi s.data.toList k (by omega), Hk.nb_hi s.data.toList k (by omega), HAT.out, ← HX.out]
              exact S2
            · exact B1.out.drew.setCell (Nat.le_refl _) _
          case measure => (simp [intOf] <;> omega)
        · have HAT := Lib.hid (Hk.at0_out s k (by omega))
          go_wp2
          go_roundw
          case rel =>
            refine ⟨k + 1, by omega, by go_num, Lib.hid ?_, B1⟩
            rw [Hk.na_hi s.data.toList k (by omega), Hk.nb_hi s.data.toList k (by omega), HAT.out, ← HX.out]
            exact S1.out
          case measure => (simp [intOf] <;> omega)
    · obtain rfl : k = 16 := by omega
      rw [HA.out, HB.out] at S
      have ca := ca.out
      have cb := cb.out
      go_wp2
      refine wq_region (C := fun W => RowAt W w.heap.size (u64L a b) ∧ Below w.heap.size w W) (by kernel_rfl) (⟨S.out.drew, B.out.drew⟩) ?_
      refine wq_take (.slice (some ⟨w.heap.size, 0, none⟩) 2 2) (by kernel_rfl) ?_ ?_
      · (intro w' hS; go_simp)
      (try simp only [Act.put, List.setIfInBounds_toArray, List.set_cons_zero, List.set_cons_succ])
      refine wq_take (.pointer (some ⟨w.heap.size, 0, none⟩)) (by kernel_rfl) ?_ ?_
      · (intro w' hS; go_simp)
      (try simp only [Act.put, List.setIfInBounds_toArray, List.set_cons_zero, List.set_cons_succ])
      refine wq_take (.int .u64 (a : Int)) (by kernel_rfl) ?_ ?_
      · (intro w' hS; have hcc := hS.1.cell 0 _ rfl; go_simp)
      (try simp only [Act.put, List.setIfInBounds_toArray, List.set_cons_zero, List.set_cons_succ])
      refine wq_take (.int .i64 (Hk.sg a)) (by kernel_rfl) ?_ ?_
      · (intro w' hS; go_simp)
      (try simp only [Act.put, List.setIfInBounds_toArray, List.set_cons_zero, List.set_cons_succ])
      refine wq_take (.slice (some ⟨w.heap.size, 0, none⟩) 2 2) (by kernel_rfl) ?_ ?_
      · (intro w' hS; go_simp)
      (try simp only [Act.put, List.setIfInBounds_toArray, List.set_cons_zero, List.set_cons_succ])
      refine wq_take (.pointer (some ⟨w.heap.size, 1, none⟩)) (by kernel_rfl) ?_ ?_
      · (intro w' hS; go_simp)
      (try simp only [Act.put, List.setIfInBounds_toArray, List.set_cons_zero, List.set_cons_succ])
      refine wq_take (.int .u64 (b : Int)) (by kernel_rfl) ?_ ?_
      · (intro w' hS; have hcc := hS.1.cell 1 _ rfl; go_simp)
      (try simp only [Act.put, List.setIfInBounds_toArray, List.set_cons_zero, List.set_cons_succ])
      refine wq_take (.int .i64 (Hk.sg b)) (by kernel_rfl) ?_ ?_
      · (intro w' hS; go_simp)
      (try simp only [Act.put, List.setIfInBounds_toArray, List.set_cons_zero, List.set_cons_succ])
      refine wq_take (.int .i64 (Hk.sg a)) (by kernel_rfl) ?_ ?_
      · (intro w' hS; go_simp)
      (try simp only [Act.put, List.setIfInBounds_toArray, List.set_cons_zero, List.set_cons_succ])
      refine wq_take (.int .i64 (Hk.sg b)) (by kernel_rfl) ?_ ?_
      · (intro w' hS; go_simp)
      (try simp only [Act.put, List.setIfInBounds_toArray, List.set_cons_zero, List.set_cons_succ])
      refine wq_nil ?_
      intro w2 hC
      go_wp2
      go_ret2
      exact ⟨rfl, hC.2⟩
set_option maxRecDepth 100000 in
set_option maxHeartbeats 1000000 in
theorem rpack_no (s : ByteArray) (w : World) (h : 16 < s.size) :
    Calls Try.prog 20 #[.string s] w fun e w' => e = .returned (.tuple #[.int .i64 0, .int .i64 0]) ∧ Below w.heap.size w w' := by
  go_enter Try.func20, Try.ntmps20
  go_wp2
  go_ret2
  exact ⟨rfl, Below.refl _ _⟩
theorem rpack_any (s : ByteArray) (w : World) : Calls Try.prog 20 #[.string s] w fun e w' => e = .returned (.tuple #[.int .i64 (Hk.packs s.data.toList).1, .int .i64 (Hk.packs s.data.toList).2]) ∧ Below w.heap.size w w' := by
  have hl : s.data.toList.length = s.size := by simp
  unfold Hk.packs
  rw [hl]
  by_cases h : s.size ≤ 16
  · rw [if_pos h]; exact rpack_yes s w h
  · rw [if_neg h]; exact rpack_no s w (by omega)
end Go.Proofs.Ythccgfnoolbiiaa
