/-
  The document's own Read.
-/
import Derived.Test.YteobdjgodljjmaaYplain
import Derived.Test.YteobdjgodljjmaaYsigned
import Derived.Test.YteobdjgodljjmaaAlin
namespace Go.Proofs.Yteobdjgodljjmaa
open Go.RowKit Go.Maps

theorem getD_piece (l : List UInt8) (a j n : Nat) (hj : j < n) : ((l.drop a).take n).getD j 0 = l.getD (a + j) 0 := by
  rw [List.getD_eq_getElem?_getD, List.getD_eq_getElem?_getD, List.getElem?_take_of_lt hj, List.getElem?_drop]
theorem piece_piece (l : List UInt8) (a j n m : Nat) (h : j + m ≤ n) : ((((l.drop a).take n).drop j).take m) = (l.drop (a + j)).take m := by
  rw [List.drop_take, List.take_take, List.drop_drop, Nat.min_eq_left (by omega)]
theorem readAt_eq (l : List UInt8) (k : Nat) : Y.readAt l k = { op := ((l.getD (8 * k) 0).toNat : Int), dst := ((l.getD (8 * k + 1) 0).toNat : Int) / 16, src := ((l.getD (8 * k + 1) 0).toNat : Int) % 16, off := Y.signed ((l.drop (8 * k + 2)).take 2), imm := Y.signed ((l.drop (8 * k + 4)).take 4) } := by
  unfold Y.readAt Y.read1
  rw [getD_piece _ _ 0 8 (by omega), getD_piece _ _ 1 8 (by omega), piece_piece _ _ 2 8 2 (by omega), piece_piece _ _ 4 8 4 (by omega)]
  rfl
theorem readN_more (l : List UInt8) (k : Nat) : Y.readN l (k + 1) = Y.readN l k ++ [Y.readAt l k] := by
  unfold Y.readN
  rw [List.range_succ, List.map_append]
  rfl
theorem readN_length (l : List UInt8) (k : Nat) : (Y.readN l k).length = k := by unfold Y.readN; simp
theorem at_byte (s : ByteArray) (i : Nat) (h : i < s.size) : s[i] = s.data.toList.getD i 0 := by
  rw [List.getD_eq_getElem?_getD, List.getElem?_eq_getElem (by exact h)]
  rfl
theorem run_index (s : ByteArray) (i : Nat) (h : i < s.size) (w : World) : (Instr.index 9 (.string s) (.int .i64 (i : Int))).run Try.prog w = .ok (.int .u8 ((s.data.toList.getD i 0).toNat : Int)) w := by
  rw [← at_byte s i h]
  go_simp
theorem run_idx {ρ : Operand → Value} {op : Oper} {t : TypeId} {x y : Operand} {A B r : Value} {w : World} (ho : op.op = .index t x y) (hx : ρ x = A) (hy : ρ y = B) (hb : (Instr.index t A B).run Try.prog w = .ok r w) :
    (execOp ρ op).run Try.prog w = .ok (.value r) w := by
  unfold execOp
  simp only [ho, hx, hy, Sem.run_bind, hb, Result.andThen_ok, Sem.run_map, Sem.run_pure]
theorem run_piece (s : ByteArray) (a n : Nat) (h : a + n ≤ s.size) (w : World) : (Instr.sliceAt 9 (.string s) (some (.int .i64 (a : Int))) (some (.int .i64 ((a + n : Nat) : Int))) none).run Try.prog w = .ok (.string (s.extract a (a + n))) w := by
  have := run_slice_string (P := Try.prog) w 9 s .i64 .i64 (a : Int) ((a + n : Nat) : Int) Try.underlying9 (by omega) (by omega) (by omega)
  rw [run_sliceAt_string _ _ _ _ _ _ Try.underlying9, this]
  rfl
theorem run_slc {ρ : Operand → Value} {op : Oper} {t : TypeId} {x y z : Operand} {A B C r : Value} {w : World} (ho : op.op = .slice t x (some y) (some z) none) (hx : ρ x = A) (hy : ρ y = B) (hz : ρ z = C) (hb : (Instr.sliceAt t A (some B) (some C) none).run Try.prog w = .ok r w) :
    (execOp ρ op).run Try.prog w = .ok (.value r) w := by
  unfold execOp
  simp only [ho, hx, hy, hz, Option.map_some, Option.map_none, Sem.run_bind, hb, Result.andThen_ok, Sem.run_map, Sem.run_pure]
theorem extract_list (s : ByteArray) (a n : Nat) : (s.extract a (a + n)).data.toList = (s.data.toList.drop a).take n := by
  rw [ByteArray.data_extract, Array.toList_extract]
  simp
theorem extract_size (s : ByteArray) (a n : Nat) (h : a + n ≤ s.size) : (s.extract a (a + n)).size = n := by rw [ByteArray.size_extract]; omega

inductive RdK where
  | a
  | b
  | c (A : Option Addr) (c : Nat)
def RdS (w wx : World) (k : Nat) (ys : List Y.In) (x : Y.In) : RdK → World → Prop
  | .a, W => W = wx
  | .b, W => W = wx.alloc (.cells (inL x).toArray 43)
  | .c A c, W => GrS w 43 (.slice A (k + 1) c) (ys ++ [x]) W
/-- what Read gives -/
def ReadGive (s : ByteArray) (w : World) (e : Ending) (w' : World) : Prop :=
  if Y.fits s.data.toList = true then ∃ A c, e = .returned (.tuple #[.slice A (s.size / 8) c, .bool (Y.all (Y.read s.data.toList))]) ∧ InsAt w' A (s.size / 8) (Y.read s.data.toList) ∧ Below w.heap.size w w'
  else e = .returned (.tuple #[.slice none 0 0, .bool false]) ∧ Below w.heap.size w w'
theorem give_no {s : ByteArray} {w w' : World} (h : Y.fits s.data.toList = false) (hb : Below w.heap.size w w') : ReadGive s w (.returned (.tuple #[.slice none 0 0, .bool false])) w' := by
  unfold ReadGive; rw [if_neg (by rw [h]; decide)]; exact ⟨rfl, hb⟩
theorem give_yes {s : ByteArray} {w w' : World} {A : Option Addr} {n c : Nat} {b : Bool} (h : Y.fits s.data.toList = true) (hn : n = s.size / 8) (hbb : b = Y.all (Y.read s.data.toList)) (hi : InsAt w' A n (Y.read s.data.toList)) (hb : Below w.heap.size w w') : ReadGive s w (.returned (.tuple #[.slice A n c, .bool b])) w' := by
  unfold ReadGive; rw [if_pos h]; subst hn hbb; exact ⟨A, c, rfl, hi, hb⟩
theorem empty_row (w : World) (t : TypeId) : GrS w t (.slice (some ⟨w.heap.size, 0, none⟩) 0 0) [] (w.alloc (.cells #[] t)) := ⟨⟨rfl, Or.inr ⟨w.heap.size, 0, #[], rfl, Nat.le_refl _, heap_alloc_new w _, Nat.le_refl _, by unfold maxLen; omega, rfl, rfl⟩⟩, (Below.refl _ _).alloc (Nat.le_refl _) _⟩
set_option maxRecDepth 100000 in
set_option maxHeartbeats 4000000 in
theorem rread_any (s : ByteArray) (w : World) (hs : s.size ≤ 9223372036854775807) : Calls Try.prog 15 #[.string s] w (ReadGive s w) := by
  have HL : Hid (s.data.toList.length = s.size) := Lib.hid rfl
  have S0 := Lib.hid (empty_row w 43)
  cases hf : Y.fits s.data.toList with
  | false =>
    have HG := Lib.hid (fun w' => give_no (w := w) (w' := w') hf)
    have hn : ¬ (s.size % 8 = 0 ∧ s.size ≤ 512) := by unfold Y.fits at hf; rw [HL.out] at hf; exact of_decide_eq_false hf
    clear hf
    by_cases h8 : s.size % 8 = 0
    · have h5 : 512 < s.size := by omega
      have e8 : ((s.size : Int) % 8) = 0 := by omega
      have e8' : ((s.size : Int).tmod 8) = 0 := by rw [Int.tmod_eq_emod_of_nonneg (by omega)]; exact e8
      clear hn h8
      go_enter Try.func15, Try.ntmps15
      go_wp2
      go_ret2
      exact HG.out _ S0.out.bel
    · have e8 : ((((s.size : Int) % 8) != 0) = true) := by simp; omega
      have e9 : ¬ ((s.size : Int) % 8 = 0) := by omega
      have e8' : ¬ ((s.size : Int).tmod 8) = 0 := by rw [Int.tmod_eq_emod_of_nonneg (by omega)]; omega
      clear hn h8
      go_enter Try.func15, Try.ntmps15
      go_wp2
      go_ret2
      exact HG.out _ S0.out.bel
  | true =>
    have hn : s.size % 8 = 0 ∧ s.size ≤ 512 := by unfold Y.fits at hf; rw [HL.out] at hf; exact of_decide_eq_true hf
    have HF := Lib.hid hf
    obtain ⟨m, hm⟩ : ∃ m, s.size = 8 * m := ⟨s.size / 8, by omega⟩
    have hm5 : s.size ≤ 512 := hn.2
    have e8 : ((s.size : Int) % 8) = 0 := by omega
    have e8' : ((s.size : Int).tmod 8) = 0 := by rw [Int.tmod_eq_emod_of_nonneg (by omega)]; exact e8
    have HM := Lib.hid hm
    have hm64 : m ≤ 64 := by omega
    have hms : 8 * m ≤ s.size := by omega
    have hms2 : s.size ≤ 8 * m := by omega
    have HR := Lib.hid (fun A n c xs w h hn => rall_any A n c xs w h hn)
    obtain ⟨i0, hi0, hz0, hs0, hb0⟩ := info_parts info_rin
    have HI0 := Lib.hid hi0
    have HZ0 := Lib.hid hz0
    have HS0 := Lib.hid hs0
    have HB0 := Lib.hid hb0
    clear hf hn hm hi0 hz0 hs0 hb0
    go_enter Try.func15, Try.ntmps15
    go_wp2
    clear e8 e8'
    go_loopw [4, 5] (fun l i wr => ∃ (k p : Nat) (A' : Option Addr) (c' : Nat), k ≤ m ∧ p = 8 * k ∧ i = .int .i64 (p : Int) ∧ l = .slice A' k c' ∧ Hid (GrS w 43 (.slice A' k c') (Y.readN s.data.toList k) wr)) (fun _ i _ => s.size - (intOf i).toNat)
    case atStart => exact ⟨0, 0, _, 0, Nat.zero_le _, rfl, rfl, rfl, S0⟩
    case round =>
      clear S0
      obtain ⟨k, p, A', c', hk, hp, rfl, rfl, S⟩ := hrel
      have HP := Lib.hid hp
      by_cases hlt : p < s.size
      · have hkm : k < m := by omega
        have hp8 : p + 8 ≤ s.size := by omega
        have HX := Lib.hid (readAt_eq s.data.toList k)
        rw [← hp] at HX
        obtain ⟨x, hx⟩ : ∃ x, x = Y.readAt s.data.toList k := ⟨_, rfl⟩
        have HT : Hid (Y.readN s.data.toList (k + 1) = Y.readN s.data.toList k ++ [x]) := Lib.hid (by rw [hx]; exact readN_more _ _)
        have HMm : Hid (k = (Y.readN s.data.toList k).length) := Lib.hid (readN_length _ _).symm
        have HI0' := Lib.hid (fun w => run_index s p (by omega) w)
        have HI1' := Lib.hid (fun w => run_index s (p + 1) (by omega) w)
        have HS24 := Lib.hid (fun w => run_piece s (p + 2) 2 (by omega) w)
        have HS48 := Lib.hid (fun w => run_piece s (p + 4) 4 (by omega) w)
        have hl1 := extract_list s (p + 2) 2
        have hl2 := extract_list s (p + 4) 4
        have HC1 := Lib.hid (fun w => signed_any (s.extract (p + 2) (p + 2 + 2)) w (by rw [extract_size _ _ _ (by omega)]; omega))
        have HC2 := Lib.hid (fun w => signed_any (s.extract (p + 4) (p + 4 + 4)) w (by rw [extract_size _ _ _ (by omega)]; omega))
        rw [hl1] at HC1
        rw [hl2] at HC2
        have hx' := hx.trans HX.out
        generalize s.data.toList.getD p 0 = c0 at HI0' hx'
        generalize s.data.toList.getD (p + 1) 0 = c1 at HI1' hx'
        generalize Y.signed ((s.data.toList.drop (p + 2)).take 2) = v1 at HC1 hx'
        generalize Y.signed ((s.data.toList.drop (p + 4)).take 4) = v2 at HC2 hx'
        generalize s.extract (p + 2) (p + 2 + 2) = z1 at HS24 HC1
        generalize s.extract (p + 4) (p + 4 + 4) = z2 at HS48 HC2
        have hc0 : (c1.toNat : Int) < 256 := by have := c1.toNat_lt; omega
        have hc1 : (c0.toNat : Int) < 256 := by have := c0.toNat_lt; omega
        clear hx HX hl1 hl2 hp
        subst hx'
        have HP1 : Hid (IntKind.i64.wrap ((p : Int) + 1) = ((p + 1 : Nat) : Int)) := Lib.hid (by rw [IntKind.wrap_i64]; omega)
        have HP2 : Hid (IntKind.i64.wrap ((p : Int) + 2) = ((p + 2 : Nat) : Int)) := Lib.hid (by rw [IntKind.wrap_i64]; omega)
        have HP4 : Hid (IntKind.i64.wrap ((p : Int) + 4) = ((p + 4 : Nat) : Int)) := Lib.hid (by rw [IntKind.wrap_i64]; omega)
        have HP8 : Hid (IntKind.i64.wrap ((p : Int) + 8) = ((p + 8 : Nat) : Int)) := Lib.hid (by rw [IntKind.wrap_i64]; omega)
        generalize Y.readN s.data.toList k = ys at S HT HMm
        have HMOD : Hid ((c1.toNat : Int).tmod 16 = (c1.toNat : Int) % 16) := Lib.hid (Int.tmod_eq_emod_of_nonneg (by omega))
        have S1 := Lib.hid (S.out.call (Below.refl _ _).drew)
        obtain ⟨wx, hwx⟩ : ∃ wx, wx = wr.drew := ⟨_, rfl⟩
        rw [← hwx] at S1
        have HWX := Lib.hid hwx
        clear hwx
        have HNW := Lib.hid (cell_new wx (inL ⟨(c0.toNat : Int), (c1.toNat : Int) / 16, (c1.toNat : Int) % 16, v1, v2⟩) 43)
        have HS1 := Lib.hid (S1.out.call ((Below.refl _ _).alloc (Nat.le_refl _) (.cells (inL ⟨(c0.toNat : Int), (c1.toNat : Int) / 16, (c1.toNat : Int) % 16, v1, v2⟩).toArray 43)))
        have HOwn := Lib.hid HS1.out.own
        rw [← HMm.out] at HOwn
        have HSZ := Lib.hid HS1.out.bel.size
        go_upto_region 7 with fail
        refine wp_region_lin (RdS w wx k ys ⟨(c0.toNat : Int), (c1.toNat : Int) / 16, (c1.toNat : Int) % 16, v1, v2⟩) (fun i => i == 32 || i == 33 || i == 34) (fun i => [.slice A' k c', .string s, .int .i64 (p : Int), .int .u8 (c0.toNat : Int), .int .i64 (c0.toNat : Int), .string s, .int .i64 (p : Int), .int .i64 ((p + 1 : Nat) : Int), .int .u8 (c1.toNat : Int), .int .i64 (c1.toNat : Int), .int .i64 ((c1.toNat : Int) / 16), .string s, .int .i64 (p : Int), .int .i64 ((p + 1 : Nat) : Int), .int .u8 (c1.toNat : Int), .int .i64 (c1.toNat : Int), .int .i64 ((c1.toNat : Int) % 16), .string s, .int .i64 (p : Int), .int .i64 ((p + 2 : Nat) : Int), .int .i64 (p : Int), .int .i64 ((p + 4 : Nat) : Int), .string z1, .int .i64 v1, .string s, .int .i64 (p : Int), .int .i64 ((p + 4 : Nat) : Int), .int .i64 (p : Int), .int .i64 ((p + 8 : Nat) : Int), .string z2, .int .i64 v2, .agg (inL ⟨(c0.toNat : Int), (c1.toNat : Int) / 16, (c1.toNat : Int) % 16, v1, v2⟩).toArray, undef, undef, undef].getD i undef) (RdK.a) (by kernel_rfl) (by kernel_rfl) (HWX.out.symm) ?_
        refine lin_step (i := 0) (d := some 22) (v := .slice A' k c') rfl rfl (by kernel_rfl) (by kernel_rfl) rfl rfl (ord_value (by kernel_rfl) ?_) ?_
        · (intro _ w' _; go_simp)
        (try simp only [Act.put, List.setIfInBounds_toArray, List.set_cons_zero, List.set_cons_succ])
        refine lin_step (i := 1) (d := some 23) (v := .string s) rfl rfl (by kernel_rfl) (by kernel_rfl) rfl rfl (ord_value (by kernel_rfl) ?_) ?_
        · (intro _ w' _; go_simp)
        (try simp only [Act.put, List.setIfInBounds_toArray, List.set_cons_zero, List.set_cons_succ])
        refine lin_step (i := 2) (d := some 24) (v := .int .i64 (p : Int)) rfl rfl (by kernel_rfl) (by kernel_rfl) rfl rfl (ord_value (by kernel_rfl) ?_) ?_
        · (intro _ w' _; go_simp)
        (try simp only [Act.put, List.setIfInBounds_toArray, List.set_cons_zero, List.set_cons_succ])
        refine lin_step (i := 3) (d := some 25) (v := .int .u8 (c0.toNat : Int)) rfl rfl (by kernel_rfl) (by kernel_rfl) rfl rfl (ord_value (by kernel_rfl) ?_) ?_
        · (intro _ w' _; exact run_idx rfl rfl rfl (HI0'.out _))
        (try simp only [Act.put, List.setIfInBounds_toArray, List.set_cons_zero, List.set_cons_succ])
        refine lin_step (i := 4) (d := some 26) (v := .int .i64 (c0.toNat : Int)) rfl rfl (by kernel_rfl) (by kernel_rfl) rfl rfl (ord_value (by kernel_rfl) ?_) ?_
        · (intro _ w' _; go_simp; exact IntWalk.i64_in _ (by omega))
        (try simp only [Act.put, List.setIfInBounds_toArray, List.set_cons_zero, List.set_cons_succ])
        refine lin_step (i := 5) (d := some 27) (v := .string s) rfl rfl (by kernel_rfl) (by kernel_rfl) rfl rfl (ord_value (by kernel_rfl) ?_) ?_
        · (intro _ w' _; go_simp)
        (try simp only [Act.put, List.setIfInBounds_toArray, List.set_cons_zero, List.set_cons_succ])
        refine lin_step (i := 6) (d := some 28) (v := .int .i64 (p : Int)) rfl rfl (by kernel_rfl) (by kernel_rfl) rfl rfl (ord_value (by kernel_rfl) ?_) ?_
        · (intro _ w' _; go_simp)
        (try simp only [Act.put, List.setIfInBounds_toArray, List.set_cons_zero, List.set_cons_succ])
        refine lin_step (i := 7) (d := some 29) (v := .int .i64 ((p + 1 : Nat) : Int)) rfl rfl (by kernel_rfl) (by kernel_rfl) rfl rfl (ord_value (by kernel_rfl) ?_) ?_
        · (intro _ w' _; have := HP1.out; go_simp)
        (try simp only [Act.put, List.setIfInBounds_toArray, List.set_cons_zero, List.set_cons_succ])
        refine lin_step (i := 8) (d := some 30) (v := .int .u8 (c1.toNat : Int)) rfl rfl (by kernel_rfl) (by kernel_rfl) rfl rfl (ord_value (by kernel_rfl) ?_) ?_
        · (intro _ w' _; exact run_idx rfl rfl rfl (HI1'.out _))
        (try simp only [Act.put, List.setIfInBounds_toArray, List.set_cons_zero, List.set_cons_succ])
        refine lin_step (i := 9) (d := some 31) (v := .int .i64 (c1.toNat : Int)) rfl rfl (by kernel_rfl) (by kernel_rfl) rfl rfl (ord_value (by kernel_rfl) ?_) ?_
        · (intro _ w' _; go_simp; exact IntWalk.i64_in _ (by omega))
        (try simp only [Act.put, List.setIfInBounds_toArray, List.set_cons_zero, List.set_cons_succ])
        refine lin_step (i := 10) (d := some 32) (v := .int .i64 ((c1.toNat : Int) / 16)) rfl rfl (by kernel_rfl) (by kernel_rfl) rfl rfl (ord_value (by kernel_rfl) ?_) ?_
        · (intro _ w' _; go_simp; exact IntWalk.i64_in _ (by omega))
        (try simp only [Act.put, List.setIfInBounds_toArray, List.set_cons_zero, List.set_cons_succ])
        refine lin_step (i := 11) (d := some 33) (v := .string s) rfl rfl (by kernel_rfl) (by kernel_rfl) rfl rfl (ord_value (by kernel_rfl) ?_) ?_
        · (intro _ w' _; go_simp)
        (try simp only [Act.put, List.setIfInBounds_toArray, List.set_cons_zero, List.set_cons_succ])
        refine lin_step (i := 12) (d := some 34) (v := .int .i64 (p : Int)) rfl rfl (by kernel_rfl) (by kernel_rfl) rfl rfl (ord_value (by kernel_rfl) ?_) ?_
        · (intro _ w' _; go_simp)
        (try simp only [Act.put, List.setIfInBounds_toArray, List.set_cons_zero, List.set_cons_succ])
        refine lin_step (i := 13) (d := some 35) (v := .int .i64 ((p + 1 : Nat) : Int)) rfl rfl (by kernel_rfl) (by kernel_rfl) rfl rfl (ord_value (by kernel_rfl) ?_) ?_
        · (intro _ w' _; have := HP1.out; go_simp)
        (try simp only [Act.put, List.setIfInBounds_toArray, List.set_cons_zero, List.set_cons_succ])
        refine lin_step (i := 14) (d := some 36) (v := .int .u8 (c1.toNat : Int)) rfl rfl (by kernel_rfl) (by kernel_rfl) rfl rfl (ord_value (by kernel_rfl) ?_) ?_
        · (intro _ w' _; exact run_idx rfl rfl rfl (HI1'.out _))
        (try simp only [Act.put, List.setIfInBounds_toArray, List.set_cons_zero, List.set_cons_succ])
        refine lin_step (i := 15) (d := some 37) (v := .int .i64 (c1.toNat : Int)) rfl rfl (by kernel_rfl) (by kernel_rfl) rfl rfl (ord_value (by kernel_rfl) ?_) ?_
        · (intro _ w' _; go_simp; exact IntWalk.i64_in _ (by omega))
        (try simp only [Act.put, List.setIfInBounds_toArray, List.set_cons_zero, List.set_cons_succ])
        refine lin_step (i := 16) (d := some 38) (v := .int .i64 ((c1.toNat : Int) % 16)) rfl rfl (by kernel_rfl) (by kernel_rfl) rfl rfl (ord_value (by kernel_rfl) ?_) ?_
        · (intro _ w' _; have := HMOD.out; go_simp)
        (try simp only [Act.put, List.setIfInBounds_toArray, List.set_cons_zero, List.set_cons_succ])
        refine lin_step (i := 17) (d := some 39) (v := .string s) rfl rfl (by kernel_rfl) (by kernel_rfl) rfl rfl (ord_value (by kernel_rfl) ?_) ?_
        · (intro _ w' _; go_simp)
        (try simp only [Act.put, List.setIfInBounds_toArray, List.set_cons_zero, List.set_cons_succ])
        refine lin_step (i := 18) (d := some 40) (v := .int .i64 (p : Int)) rfl rfl (by kernel_rfl) (by kernel_rfl) rfl rfl (ord_value (by kernel_rfl) ?_) ?_
        · (intro _ w' _; go_simp)
        (try simp only [Act.put, List.setIfInBounds_toArray, List.set_cons_zero, List.set_cons_succ])
        refine lin_step (i := 19) (d := some 41) (v := .int .i64 ((p + 2 : Nat) : Int)) rfl rfl (by kernel_rfl) (by kernel_rfl) rfl rfl (ord_value (by kernel_rfl) ?_) ?_
        · (intro _ w' _; have := HP2.out; go_simp)
        (try simp only [Act.put, List.setIfInBounds_toArray, List.set_cons_zero, List.set_cons_succ])
        refine lin_step (i := 20) (d := some 42) (v := .int .i64 (p : Int)) rfl rfl (by kernel_rfl) (by kernel_rfl) rfl rfl (ord_value (by kernel_rfl) ?_) ?_
        · (intro _ w' _; go_simp)
        (try simp only [Act.put, List.setIfInBounds_toArray, List.set_cons_zero, List.set_cons_succ])
        refine lin_step (i := 21) (d := some 43) (v := .int .i64 ((p + 4 : Nat) : Int)) rfl rfl (by kernel_rfl) (by kernel_rfl) rfl rfl (ord_value (by kernel_rfl) ?_) ?_
        · (intro _ w' _; have := HP4.out; go_simp)
        (try simp only [Act.put, List.setIfInBounds_toArray, List.set_cons_zero, List.set_cons_succ])
        refine lin_step (i := 22) (d := some 44) (v := .string z1) rfl rfl (by kernel_rfl) (by kernel_rfl) rfl rfl (ord_value (by kernel_rfl) ?_) ?_
        · (intro _ w' _; exact run_slc rfl rfl rfl rfl (HS24.out _))
        (try simp only [Act.put, List.setIfInBounds_toArray, List.set_cons_zero, List.set_cons_succ])
        refine lin_step (i := 23) (d := some 45) (v := .int .i64 v1) rfl rfl (by kernel_rfl) (by kernel_rfl) rfl rfl (ord_call (f := 27) (args := #[.string z1]) (by kernel_rfl) ?_ (fun _ W hS => (HC1.out W).mono fun _ _ h => ⟨h.1, h.2 ▸ hS⟩)) ?_
        · (intro _; go_simp <;> rfl)
        (try simp only [Act.put, List.setIfInBounds_toArray, List.set_cons_zero, List.set_cons_succ])
        refine lin_step (i := 24) (d := some 46) (v := .string s) rfl rfl (by kernel_rfl) (by kernel_rfl) rfl rfl (ord_value (by kernel_rfl) ?_) ?_
        · (intro _ w' _; go_simp)
        (try simp only [Act.put, List.setIfInBounds_toArray, List.set_cons_zero, List.set_cons_succ])
        refine lin_step (i := 25) (d := some 47) (v := .int .i64 (p : Int)) rfl rfl (by kernel_rfl) (by kernel_rfl) rfl rfl (ord_value (by kernel_rfl) ?_) ?_
        · (intro _ w' _; go_simp)
        (try simp only [Act.put, List.setIfInBounds_toArray, List.set_cons_zero, List.set_cons_succ])
        refine lin_step (i := 26) (d := some 48) (v := .int .i64 ((p + 4 : Nat) : Int)) rfl rfl (by kernel_rfl) (by kernel_rfl) rfl rfl (ord_value (by kernel_rfl) ?_) ?_
        · (intro _ w' _; have := HP4.out; go_simp)
        (try simp only [Act.put, List.setIfInBounds_toArray, List.set_cons_zero, List.set_cons_succ])
        refine lin_step (i := 27) (d := some 49) (v := .int .i64 (p : Int)) rfl rfl (by kernel_rfl) (by kernel_rfl) rfl rfl (ord_value (by kernel_rfl) ?_) ?_
        · (intro _ w' _; go_simp)
        (try simp only [Act.put, List.setIfInBounds_toArray, List.set_cons_zero, List.set_cons_succ])
        refine lin_step (i := 28) (d := some 50) (v := .int .i64 ((p + 8 : Nat) : Int)) rfl rfl (by kernel_rfl) (by kernel_rfl) rfl rfl (ord_value (by kernel_rfl) ?_) ?_
        · (intro _ w' _; have := HP8.out; go_simp)
        (try simp only [Act.put, List.setIfInBounds_toArray, List.set_cons_zero, List.set_cons_succ])
        refine lin_step (i := 29) (d := some 51) (v := .string z2) rfl rfl (by kernel_rfl) (by kernel_rfl) rfl rfl (ord_value (by kernel_rfl) ?_) ?_
        · (intro _ w' _; exact run_slc rfl rfl rfl rfl (HS48.out _))
        (try simp only [Act.put, List.setIfInBounds_toArray, List.set_cons_zero, List.set_cons_succ])
        refine lin_step (i := 30) (d := some 52) (v := .int .i64 v2) rfl rfl (by kernel_rfl) (by kernel_rfl) rfl rfl (ord_call (f := 27) (args := #[.string z2]) (by kernel_rfl) ?_ (fun _ W hS => (HC2.out W).mono fun _ _ h => ⟨h.1, h.2 ▸ hS⟩)) ?_
        · (intro _; go_simp <;> rfl)
        (try simp only [Act.put, List.setIfInBounds_toArray, List.set_cons_zero, List.set_cons_succ])
        refine lin_step (i := 31) (d := some 53) (v := .agg (inL ⟨(c0.toNat : Int), (c1.toNat : Int) / 16, (c1.toNat : Int) % 16, v1, v2⟩).toArray) rfl rfl (by kernel_rfl) (by kernel_rfl) rfl rfl (ord_value (by kernel_rfl) ?_) ?_
        · (intro _ w' _; unfold inL; go_simp)
        (try simp only [Act.put, List.setIfInBounds_toArray, List.set_cons_zero, List.set_cons_succ])
        refine lin_turnD (i := 32) (d := some 54) [33, 34] (fun u s => u = .slice (some ⟨wx.heap.size, 0, none⟩) 1 1 ∧ s = RdK.b) rfl rfl (by kernel_rfl) (by kernel_rfl) rfl (by kernel_rfl) (⟨_, _, rfl, rfl⟩) (by kernel_rfl) (fun W hS => gives_to (v := .slice (some ⟨wx.heap.size, 0, none⟩) 1 1) (w' := wx.alloc (.cells (inL ⟨(c0.toNat : Int), (c1.toNat : Int) / 16, (c1.toNat : Int) % 16, v1, v2⟩).toArray 43)) (by rw [show W = wx from hS]; exact exec_oneIn (Or.inr ⟨rfl, rfl⟩) (.tmp 53) rfl rfl) ⟨.b, ⟨rfl, rfl⟩, rfl⟩) ?_
        rintro u s' ⟨rfl, rfl⟩
        (try simp only [Act.put, List.setIfInBounds_toArray, List.set_cons_zero, List.set_cons_succ])
        refine lin_turnD (i := 33) (d := some 55) [34] (fun u s => ∃ A c, u = .slice A (k + 1) c ∧ s = RdK.c A c) rfl rfl (by kernel_rfl) (by kernel_rfl) rfl (by kernel_rfl) (⟨_, _, none, 0, rfl, rfl⟩) (by kernel_rfl) (fun W hS => gives_append (.tmp 22) (.tmp 54) 24 rfl w.heap.size 43 i0 _ 5 40 Try.underlying24 HI0.out HZ0.out HS0.out HB0.out rfl (by omega) (.slice A' k c') k (cellsOf ys) rfl (by rw [show W = _ from hS]; exact HOwn.out) ⟨wx.heap.size, 0, none⟩ 1 1 (inL ⟨(c0.toNat : Int), (c1.toNat : Int) / 16, (c1.toNat : Int) % 16, v1, v2⟩) rfl rfl (by rw [show W = _ from hS]; exact HNW.out) (inL_one _) (by unfold maxLen; omega) (by omega) (by rw [show W = _ from hS]; exact HSZ.out) (fun v' w' ho hg _ _ => by obtain ⟨A2, c2, rfl⟩ := owns_slice ho; exact ⟨.c A2 c2, ⟨A2, c2, rfl, rfl⟩, by rw [show W = _ from hS] at hg; exact HS1.out.grow hg (by rw [← HMm.out]; exact ho)⟩)) ?_
        rintro u s' ⟨A2, c2, rfl, rfl⟩
        (try simp only [Act.put, List.setIfInBounds_toArray, List.set_cons_zero, List.set_cons_succ])
        refine lin_turnD (i := 34) (d := some 4) [] (fun u s => u = .slice A2 (k + 1) c2 ∧ s = RdK.c A2 c2) rfl rfl (by kernel_rfl) (by kernel_rfl) rfl (by kernel_rfl) (⟨_, _, rfl, rfl⟩) (by kernel_rfl) (fun W hS => gives_value (v := .slice A2 (k + 1) c2) (by go_simp) ⟨.c A2 c2, ⟨rfl, rfl⟩, hS⟩) ?_
        rintro u s' ⟨rfl, rfl⟩
        (try simp only [Act.put, List.setIfInBounds_toArray, List.set_cons_zero, List.set_cons_succ])
        refine lin_done (by kernel_rfl) ?_
        clear S
        intro w2 S2
        have S3 := Lib.hid (show GrS w 43 (.slice A2 (k + 1) c2) (ys ++ [⟨(c0.toNat : Int), (c1.toNat : Int) / 16, (c1.toNat : Int) % 16, v1, v2⟩]) w2 from S2)
        rw [← HT.out] at S3
        clear S2
        have hwr : IntKind.i64.wrap ((p : Int) + 8) = ((p + 8 : Nat) : Int) := HP8.out
        go_wp2
        go_roundw
        case rel => exact ⟨k + 1, p + 8, A2, c2, by omega, by have := HP.out; omega, by first | rfl | go_num, rfl, S3⟩
        case measure => (simp [intOf] <;> omega)
      · obtain rfl : k = m := by omega
        have e : Y.readN s.data.toList k = Y.read s.data.toList := by unfold Y.read; congr 1; rw [HL.out]; omega
        rw [e] at S
        have hk8 : k = s.size / 8 := by omega
        have hown := S.out.own
        have HI := Lib.hid (owns_ins (by have h2 := readN_length s.data.toList k; rw [e] at h2; rw [h2] at hown; exact hown) (by rw [← e]; exact (readN_length _ _).symm))
        have HRA := Lib.hid (fun W h => HR.out A' k c' (Y.read s.data.toList) W h (by omega))
        have HK8 := Lib.hid hk8
        clear e hown hk8 hlt
        go_wp2_with (go_at_call 9; (with_reducible refine (HRA.out _ HI.out).mono ?_); rintro e w2 ⟨rfl, hb2⟩; have HB2 := Lib.hid hb2; clear hb2)
        go_ret2
        exact give_yes HF.out HK8.out rfl (HI.out.step HB2.out) (S.out.bel.trans (HB2.out.mono S.out.bel.size))
end Go.Proofs.Yteobdjgodljjmaa
