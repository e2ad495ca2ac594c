/-
  The contracts of the document's own Slot and Put.
-/
import Derived.Test.YtejedkdlehgnpaaNcode
namespace Go.Proofs.Ytejedkdlehgnpaa
open Go.RowKit

theorem arrT : RowT 37 16 := ⟨⟨_, Try.underlying37, rfl⟩, by kernel_rfl⟩
theorem gives_skip {P : Program} {m : Sem Next} {w w' : World} {R : Value → World → Prop} (h : m.run P w = .ok .skip w') (hR : R undef w') : Gives P m w R := by
  unfold Gives
  rw [h]
  exact hR
theorem RowAt.setOther {w : World} {b : Nat} {vs : List Value} (h : RowAt w b vs) (b' i : Nat) (v : Value) (hb : b ≠ b') : RowAt (w.setCell ⟨b', i, none⟩ v) b vs :=
  ⟨fun j u hu => by rw [World.cell?_setCell_other _ _ _ _ (fun q => hb (by injection q with q; exact q.symm))]; exact h.range j u hu,
    fun j hj => by rw [World.cell?_setCell_other _ _ _ _ (fun q => hb (by injection q with q; exact q.symm)), World.frozen?_setCell]; exact h.free j hj⟩
theorem RowAt.setOne {w : World} {b : Nat} {vs : List Value} (h : RowAt w b vs) (i : Nat) (v : Value) (hi : i < vs.length) : RowAt (w.setCell ⟨b, i, none⟩ v) b (vs.set i v) where
  range := fun j u hu => by
    rw [Nat.zero_add]
    rw [List.getElem?_set] at hu
    by_cases e : i = j
    · subst e
      rw [if_pos rfl, if_pos hi] at hu
      injection hu with hu
      rw [← hu]
      exact World.cell?_setCell_same' _ _ _ (by rw [h.cell i _ (List.getElem?_eq_getElem hi)]; rfl)
    · rw [if_neg e] at hu
      rw [World.cell?_setCell_other _ _ _ _ (fun q => e (by injection q))]
      exact h.cell j u hu
  free := fun j hj => by
    rw [List.length_set] at hj
    rw [Nat.zero_add]
    refine ⟨?_, by rw [World.frozen?_setCell]; exact h.frozen j hj⟩
    by_cases e : i = j
    · subst e
      rw [World.cell?_setCell_same' _ _ _ (by rw [h.cell i _ (List.getElem?_eq_getElem hi)]; rfl)]; rfl
    · rw [World.cell?_setCell_other _ _ _ _ (fun q => e (by injection q)), h.cell j _ (List.getElem?_eq_getElem hj)]; rfl
/-- what stands in memory at the document's Slot: the entry, the sixteen bytes that are handed back, the sixteen that are made -/
structure SlS (w0 : World) (n : Int) (s : ByteArray) (l : List UInt8) (W : World) : Prop where
  len : l.length = 16
  ent : RowAt W w0.heap.size (entL n s)
  out : RowAt W (w0.heap.size + 1) (byteVals (Nm.zs 16))
  arr : RowAt W (w0.heap.size + 2) (byteVals l)
  below : Below w0.heap.size w0 W
theorem SlS.drew {w0 : World} {n : Int} {s : ByteArray} {l : List UInt8} {W : World} (k : SlS w0 n s l W) : SlS w0 n s l W.drew := ⟨k.len, k.ent.drew, k.out.drew, k.arr.drew, k.below.drew⟩
theorem SlS.cellAt {w0 : World} {n : Int} {s : ByteArray} {l : List UInt8} {W : World} (k : SlS w0 n s l W) (j : Nat) (hj : j < 16) : W.cell? ⟨w0.heap.size + 2, j, none⟩ = some (.int .u8 ((l.getD j 0).toNat : Int)) := by
  have h : j < l.length := by rw [k.len]; exact hj
  have := k.arr.cell j _ (byteVals_at l j h)
  rw [this, List.getD_eq_getElem?_getD, List.getElem?_eq_getElem h]
  rfl
theorem SlS.free {w0 : World} {n : Int} {s : ByteArray} {l : List UInt8} {W : World} (k : SlS w0 n s l W) (j : Nat) (hj : j < 16) : W.frozen? ⟨w0.heap.size + 2, j, none⟩ = false :=
  k.arr.frozen j (by rw [byteVals_length, k.len]; exact hj)
theorem SlS.arr_len {w0 : World} {n : Int} {s : ByteArray} {l : List UInt8} {W : World} (k : SlS w0 n s l W) : (byteVals l).length = 16 := by rw [byteVals_length, k.len]
theorem SlS.set {w0 : World} {n : Int} {s : ByteArray} {l : List UInt8} {W : World} (k : SlS w0 n s l W) (j : Nat) (c : UInt8) (hj : j < 16) : SlS w0 n s (l.set j c) (W.setCell ⟨w0.heap.size + 2, j, none⟩ (.int .u8 (c.toNat : Int))) where
  len := by rw [List.length_set, k.len]
  ent := k.ent.setOther _ _ _ (by omega)
  out := k.out.setOther _ _ _ (by omega)
  arr := by rw [← byteVals_set]; exact k.arr.setOne j _ (by rw [byteVals_length, k.len]; exact hj)
  below := k.below.setCell (by show w0.heap.size ≤ w0.heap.size + 2; omega) _
theorem SlS.back {w0 : World} {n : Int} {s : ByteArray} {l : List UInt8} {W : World} (k : SlS w0 n s l W) : RowAt (W.setCells (w0.heap.size + 1) 0 (byteVals l)) (w0.heap.size + 1) (byteVals l) ∧ Below w0.heap.size w0 (W.setCells (w0.heap.size + 1) 0 (byteVals l)) :=
  ⟨k.out.put (byteVals l) (by rw [byteVals_length, byteVals_length, k.len]; rfl), below_setCells _ (by omega) _ _ _ k.below⟩
def zero16 : Array Value := (byteVals (Nm.zs 16)).toArray
theorem zero16_def : zero16 = #[.int .u8 0, .int .u8 0, .int .u8 0, .int .u8 0, .int .u8 0, .int .u8 0, .int .u8 0, .int .u8 0, .int .u8 0, .int .u8 0, .int .u8 0, .int .u8 0, .int .u8 0, .int .u8 0, .int .u8 0, .int .u8 0] := rfl
theorem slS_box (w : World) (n : Int) (s : ByteArray) : SlS w n s (Nm.zs 16) (((w.alloc (.cells #[.int .i64 n, .string s] 30)).alloc (.cells zero16 37)).alloc (.cells zero16 37)) where
  len := rfl
  ent := ((rowAt_new w (entL n s) _).alloc _).alloc _
  out := by
    have h := (rowAt_new (w.alloc (.cells #[.int .i64 n, .string s] 30)) (byteVals (Nm.zs 16)) 37).alloc (.cells zero16 37)
    rw [World.size_alloc] at h
    exact h
  arr := by
    have h := rowAt_new ((w.alloc (.cells #[.int .i64 n, .string s] 30)).alloc (.cells zero16 37)) (byteVals (Nm.zs 16)) 37
    simp only [World.size_alloc] at h
    exact h
  below := (((Below.refl _ _).alloc (Nat.le_refl _) _).alloc (by simp) _).alloc (by simp; omega) _
/-- the bytes ahead of the loop, and in it -/
def slotK (c0 c1 c2 : UInt8) (l : List UInt8) (k : Nat) : List UInt8 := c0 :: c1 :: c2 :: (l.take k ++ Nm.zs (13 - k))
theorem slotK_zero (c0 c1 c2 : UInt8) (l : List UInt8) : (((Nm.zs 16).set 0 c0).set 1 c1).set 2 c2 = slotK c0 c1 c2 l 0 := rfl
theorem slotK_step (c0 c1 c2 : UInt8) (l : List UInt8) (k : Nat) (h : k < l.length) (hl : l.length ≤ 13) : (slotK c0 c1 c2 l k).set (3 + k) l[k] = slotK c0 c1 c2 l (k + 1) := by
  unfold slotK
  rw [Nat.add_comm 3 k, List.set_cons_succ, List.set_cons_succ, List.set_cons_succ, List.set_append_right _ _ (by simp; omega)]
  have e1 : k - (l.take k).length = 0 := by simp; omega
  obtain ⟨d, hd⟩ : ∃ d, 13 - k = d + 1 := ⟨12 - k, by omega⟩
  rw [e1, hd, show 13 - (k + 1) = d by omega, show Nm.zs (d + 1) = 0 :: Nm.zs d from rfl, List.set_cons_zero, List.take_succ_eq_append_getElem h, List.append_assoc]
  rfl
theorem slotK_all (n : Int) (l : List UInt8) : slotK (Pg.byteAt 1 n) (Pg.byteAt 0 n) (Pg.byteAt 0 l.length) l l.length = Nm.slot n l := by
  unfold slotK Nm.slot
  rw [List.take_length]

set_option maxRecDepth 100000 in
set_option maxHeartbeats 4000000 in
theorem refSlot_any (n : Int) (s : ByteArray) (w : World) (h0 : 0 ≤ n) (h1 : n ≤ 65535) (hs : s.size ≤ 13) :
    Calls Try.prog 16 #[entV n s] w fun e w' => e = .returned (pageV (Nm.slot n s.data.toList)) ∧ Below w.heap.size w w' := by
  have hS := slS_box w n s
  rw [zero16_def] at hS
  have S := Lib.hid hS
  clear hS
  have HZ := Lib.hid (size_list s)
  have HE := Lib.hid (slotK_all n s.data.toList)
  rw [HZ.out] at HE
  obtain ⟨c0, X0⟩ : ∃ c, Hid (c = Pg.byteAt 1 n) := ⟨_, Lib.hid rfl⟩
  obtain ⟨c1, X1⟩ : ∃ c, Hid (c = Pg.byteAt 0 n) := ⟨_, Lib.hid rfl⟩
  obtain ⟨c2, X2⟩ : ∃ c, Hid (c = Pg.byteAt 0 (s.size : Int)) := ⟨_, Lib.hid rfl⟩
  have E0 : Hid (IntKind.u8.wrap (n / 256) = (c0.toNat : Int)) := Lib.hid (by rw [X0.out, Pg.byteAt_nat, IntKind.wrap_u8]; rfl)
  have E1 : Hid (IntKind.u8.wrap (n % 256) = (c1.toNat : Int)) := Lib.hid (by rw [X1.out, Pg.byteAt_nat, Int.pow_zero, Int.ediv_one, IntKind.wrap_u8]; omega)
  have E2 : Hid (IntKind.u8.wrap (s.size : Int) = (c2.toNat : Int)) := Lib.hid (by rw [X2.out, Pg.byteAt_nat, Int.pow_zero, Int.ediv_one, IntKind.wrap_u8])
  have F0 : Hid (IntKind.i64.wrap (n.tdiv 256) = n / 256) := Lib.hid (by
    rw [Int.tdiv_eq_ediv_of_nonneg h0]
    exact IntWalk.i64_in _ (by omega))
  have F1 : Hid (n.tmod 256 = n % 256) := Lib.hid (Int.tmod_eq_emod_of_nonneg h0)
  rw [← X0.out, ← X1.out, ← X2.out] at HE
  rw [← HE.out]
  clear X0 X1 X2 HE
  unfold entV
  go_enter Try.func16, Try.ntmps16
  go_wp2_with fail
  refine wp_region_lin (SlS w n s) (fun i => i == 13 || i == 15 || i == 17) (fun i => [.pointer (some ⟨w.heap.size, 0, none⟩), .int .i64 n, .int .i64 (n / 256), .int .u8 (c0.toNat : Int), .pointer (some ⟨w.heap.size, 0, none⟩), .int .i64 n, .int .i64 (n % 256), .int .u8 (c1.toNat : Int), .pointer (some ⟨w.heap.size, 1, none⟩), .string s, .int .i64 (s.size : Int), .int .u8 (c2.toNat : Int), .pointer (some ⟨w.heap.size + 2, 0, none⟩), undef, .pointer (some ⟨w.heap.size + 2, 1, none⟩), undef, .pointer (some ⟨w.heap.size + 2, 2, none⟩)].getD i undef) (Nm.zs 16) (by kernel_rfl) (by kernel_rfl) (SlS.drew S.out) ?_
  refine lin_step (i := 0) (d := some 6) (v := .pointer (some ⟨w.heap.size, 0, none⟩)) rfl rfl (by kernel_rfl) (by kernel_rfl) rfl rfl (ord_value (by kernel_rfl) ?_) ?_
  · (intro _ _ _; go_simp) <;> rfl
  (try simp only [Act.put, List.setIfInBounds_toArray, List.set_cons_zero, List.set_cons_succ])
  refine lin_step (i := 1) (d := some 7) (v := .int .i64 n) rfl rfl (by kernel_rfl) (by kernel_rfl) rfl rfl (ord_value (by kernel_rfl) ?_) ?_
  · (intro _ _ hS; have hc := hS.ent.cell 0 _ rfl; go_simp)
  (try simp only [Act.put, List.setIfInBounds_toArray, List.set_cons_zero, List.set_cons_succ])
  refine lin_step (i := 2) (d := some 8) (v := .int .i64 (n / 256)) rfl rfl (by kernel_rfl) (by kernel_rfl) rfl rfl (ord_value (by kernel_rfl) ?_) ?_
  · (intro _ _ _; go_simp; rw [F0.out])
  (try simp only [Act.put, List.setIfInBounds_toArray, List.set_cons_zero, List.set_cons_succ])
  refine lin_step (i := 3) (d := some 9) (v := .int .u8 (c0.toNat : Int)) rfl rfl (by kernel_rfl) (by kernel_rfl) rfl rfl (ord_value (by kernel_rfl) ?_) ?_
  · (intro _ _ _; go_simp; rw [E0.out])
  (try simp only [Act.put, List.setIfInBounds_toArray, List.set_cons_zero, List.set_cons_succ])
  refine lin_step (i := 4) (d := some 10) (v := .pointer (some ⟨w.heap.size, 0, none⟩)) rfl rfl (by kernel_rfl) (by kernel_rfl) rfl rfl (ord_value (by kernel_rfl) ?_) ?_
  · (intro _ _ _; go_simp) <;> rfl
  (try simp only [Act.put, List.setIfInBounds_toArray, List.set_cons_zero, List.set_cons_succ])
  refine lin_step (i := 5) (d := some 11) (v := .int .i64 n) rfl rfl (by kernel_rfl) (by kernel_rfl) rfl rfl (ord_value (by kernel_rfl) ?_) ?_
  · (intro _ _ hS; have hc := hS.ent.cell 0 _ rfl; go_simp)
  (try simp only [Act.put, List.setIfInBounds_toArray, List.set_cons_zero, List.set_cons_succ])
  refine lin_step (i := 6) (d := some 12) (v := .int .i64 (n % 256)) rfl rfl (by kernel_rfl) (by kernel_rfl) rfl rfl (ord_value (by kernel_rfl) ?_) ?_
  · (intro _ _ _; go_simp; rw [F1.out])
  (try simp only [Act.put, List.setIfInBounds_toArray, List.set_cons_zero, List.set_cons_succ])
  refine lin_step (i := 7) (d := some 13) (v := .int .u8 (c1.toNat : Int)) rfl rfl (by kernel_rfl) (by kernel_rfl) rfl rfl (ord_value (by kernel_rfl) ?_) ?_
  · (intro _ _ _; go_simp; rw [E1.out])
  (try simp only [Act.put, List.setIfInBounds_toArray, List.set_cons_zero, List.set_cons_succ])
  refine lin_step (i := 8) (d := some 14) (v := .pointer (some ⟨w.heap.size, 1, none⟩)) rfl rfl (by kernel_rfl) (by kernel_rfl) rfl rfl (ord_value (by kernel_rfl) ?_) ?_
  · (intro _ _ _; go_simp) <;> rfl
  (try simp only [Act.put, List.setIfInBounds_toArray, List.set_cons_zero, List.set_cons_succ])
  refine lin_step (i := 9) (d := some 15) (v := .string s) rfl rfl (by kernel_rfl) (by kernel_rfl) rfl rfl (ord_value (by kernel_rfl) ?_) ?_
  · (intro _ _ hS; have hc := hS.ent.cell 1 _ rfl; go_simp)
  (try simp only [Act.put, List.setIfInBounds_toArray, List.set_cons_zero, List.set_cons_succ])
  refine lin_step (i := 10) (d := some 16) (v := .int .i64 (s.size : Int)) rfl rfl (by kernel_rfl) (by kernel_rfl) rfl rfl (ord_value (by kernel_rfl) ?_) ?_
  · (intro _ _ _; go_simp)
  (try simp only [Act.put, List.setIfInBounds_toArray, List.set_cons_zero, List.set_cons_succ])
  refine lin_step (i := 11) (d := some 17) (v := .int .u8 (c2.toNat : Int)) rfl rfl (by kernel_rfl) (by kernel_rfl) rfl rfl (ord_value (by kernel_rfl) ?_) ?_
  · (intro _ _ _; go_simp; rw [E2.out])
  (try simp only [Act.put, List.setIfInBounds_toArray, List.set_cons_zero, List.set_cons_succ])
  refine lin_step (i := 12) (d := some 18) (v := .pointer (some ⟨w.heap.size + 2, 0, none⟩)) rfl rfl (by kernel_rfl) (by kernel_rfl) rfl rfl (ord_value (by kernel_rfl) ?_) ?_
  · (intro _ _ _; go_simp) <;> rfl
  (try simp only [Act.put, List.setIfInBounds_toArray, List.set_cons_zero, List.set_cons_succ])
  refine lin_turn (i := 13) (d := none) (fun u z => u = undef ∧ z = (Nm.zs 16).set 0 c0) rfl rfl (by kernel_rfl) (by kernel_rfl) rfl (by kernel_rfl) (⟨_, _, rfl, rfl⟩) (by kernel_rfl) (fun W hS => gives_skip (w' := W.setCell ⟨w.heap.size + 2, 0, none⟩ (.int .u8 (c0.toNat : Int))) (by have hc := hS.cellAt 0 (by decide); have hf := hS.free 0 (by decide); go_simp) ⟨_, ⟨rfl, rfl⟩, hS.set 0 c0 (by decide)⟩) ?_
  rintro _ _ ⟨rfl, rfl⟩
  (try simp only [Act.put, List.setIfInBounds_toArray, List.set_cons_zero, List.set_cons_succ])
  refine lin_step (i := 14) (d := some 19) (v := .pointer (some ⟨w.heap.size + 2, 1, none⟩)) rfl rfl (by kernel_rfl) (by kernel_rfl) rfl rfl (ord_value (by kernel_rfl) ?_) ?_
  · (intro _ _ _; go_simp) <;> rfl
  (try simp only [Act.put, List.setIfInBounds_toArray, List.set_cons_zero, List.set_cons_succ])
  refine lin_turn (i := 15) (d := none) (fun u z => u = undef ∧ z = ((Nm.zs 16).set 0 c0).set 1 c1) rfl rfl (by kernel_rfl) (by kernel_rfl) rfl (by kernel_rfl) (⟨_, _, rfl, rfl⟩) (by kernel_rfl) (fun W hS => gives_skip (w' := W.setCell ⟨w.heap.size + 2, 1, none⟩ (.int .u8 (c1.toNat : Int))) (by have hc := hS.cellAt 1 (by decide); have hf := hS.free 1 (by decide); go_simp) ⟨_, ⟨rfl, rfl⟩, hS.set 1 c1 (by decide)⟩) ?_
  rintro _ _ ⟨rfl, rfl⟩
  (try simp only [Act.put, List.setIfInBounds_toArray, List.set_cons_zero, List.set_cons_succ])
  refine lin_step (i := 16) (d := some 20) (v := .pointer (some ⟨w.heap.size + 2, 2, none⟩)) rfl rfl (by kernel_rfl) (by kernel_rfl) rfl rfl (ord_value (by kernel_rfl) ?_) ?_
  · (intro _ _ _; go_simp) <;> rfl
  (try simp only [Act.put, List.setIfInBounds_toArray, List.set_cons_zero, List.set_cons_succ])
  refine lin_turn (i := 17) (d := none) (fun u z => u = undef ∧ z = (((Nm.zs 16).set 0 c0).set 1 c1).set 2 c2) rfl rfl (by kernel_rfl) (by kernel_rfl) rfl (by kernel_rfl) (⟨_, _, rfl, rfl⟩) (by kernel_rfl) (fun W hS => gives_skip (w' := W.setCell ⟨w.heap.size + 2, 2, none⟩ (.int .u8 (c2.toNat : Int))) (by have hc := hS.cellAt 2 (by decide); have hf := hS.free 2 (by decide); go_simp) ⟨_, ⟨rfl, rfl⟩, hS.set 2 c2 (by decide)⟩) ?_
  rintro _ _ ⟨rfl, rfl⟩
  (try simp only [Act.put, List.setIfInBounds_toArray, List.set_cons_zero, List.set_cons_succ])
  refine lin_done (by kernel_rfl) ?_
  intro W2 hS
  replace S := Lib.hid hS
  clear hS
  replace S : Hid (SlS w n s (slotK c0 c1 c2 s.data.toList 0) W2) := S
  have hC0 := S.out.ent.cell 1 _ rfl
  go_wp2_with fail
  go_loopw [4] (fun i wr => ∃ k : Nat, k ≤ s.size ∧ i = .int .i64 (k : Int) ∧ Hid (SlS w n s (slotK c0 c1 c2 s.data.toList k) wr)) (fun i _ => s.size - (intOf i).toNat)
  case atStart => exact ⟨0, by omega, rfl, S⟩
  case round =>
    clear S hC0
    obtain ⟨k, hk, rfl, S⟩ := hrel
    have hc1 := S.out.ent.cell 1 _ rfl
    by_cases hlt : k < s.size
    · obtain ⟨x, hx⟩ : ∃ x : UInt8, s[k]'hlt = x := ⟨_, rfl⟩
      have HX : Hid (s.data.toList[k]'(by rw [HZ.out]; exact hlt) = x) := Lib.hid hx
      obtain ⟨j, hj⟩ : ∃ j, 3 + k = j := ⟨_, rfl⟩
      have hidx : (3 : Int) + (k : Int) = (j : Int) := by omega
      have hj16 : j < 16 := by omega
      have hc := S.out.cellAt j hj16
      have hf := S.out.free j hj16
      have HJ := Lib.hid hj
      clear hj
      go_wp2
      have S3 := Lib.hid (S.out.set j x hj16)
      clear hc hf
      go_roundw
      case rel => exact ⟨k + 1, by omega, by go_num, Lib.hid (by
        have := S3.out
        rw [← HJ.out, ← HX.out, slotK_step _ _ _ _ _ (by rw [HZ.out]; exact hlt) (by rw [HZ.out]; exact hs)] at this
        rw [← HJ.out, ← HX.out]
        exact this)⟩
      case measure => simp [intOf]; omega
    · obtain rfl : k = s.size := by omega
      go_wp2_with (first
        | (with_reducible refine wpList_load_row arrT S.out.arr ?_ rfl (.tmp 3) rfl rfl ?_; (exact S.out.arr_len))
        | ((with_reducible refine wpList_store_row arrT (vs := byteVals (slotK c0 c1 c2 s.data.toList s.size)) S.out.out ?_ S.out.arr_len (byteVals_one _) rfl (.tmp 2) (.tmp 35) rfl rfl ?_ ?_); (exact rfl); (exact rfl)))
      exact bodyPost_ret (results_row arrT _ 2 rfl _ S.out.back.1 S.out.arr_len rfl) rfl ⟨rfl, S.out.back.2⟩
end Go.Proofs.Ytejedkdlehgnpaa
