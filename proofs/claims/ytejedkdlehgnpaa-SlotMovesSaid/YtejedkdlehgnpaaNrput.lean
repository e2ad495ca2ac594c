/-
  The contract of the document's own Put.
-/
import Derived.Test.YtejedkdlehgnpaaNref
namespace Go.Proofs.Ytejedkdlehgnpaa
open Go.RowKit

structure RpS (w0 : World) (q b : List UInt8) (W : World) : Prop where
  page : PageAt W w0.heap.size q
  arr : RowAt W (w0.heap.size + 1) (byteVals b)
  out : PageAt W (w0.heap.size + 2) zeros
  below : Below w0.heap.size w0 W
theorem RpS.set {w0 : World} {q b : List UInt8} {W : World} (k : RpS w0 q b W) (j : Nat) (c : UInt8) (hj : j < 64) : RpS w0 (q.set j c) b (W.setCell ⟨w0.heap.size, j, none⟩ (.int .u8 (c.toNat : Int))) where
  page := k.page.set j c hj
  arr := k.arr.setOther _ _ _ (by omega)
  out := k.out.set_other _ _ _ (by omega)
  below := k.below.setCell (Nat.le_refl _) _
theorem RpS.back {w0 : World} {q b : List UInt8} {W : World} (k : RpS w0 q b W) : PageAt (W.setCells (w0.heap.size + 2) 0 (byteVals q)) (w0.heap.size + 2) q ∧ Below w0.heap.size w0 (W.setCells (w0.heap.size + 2) 0 (byteVals q)) :=
  ⟨k.out.put q k.page.len, below_setCells _ (by omega) _ _ _ k.below⟩
theorem rpS_box (w : World) (p b : List UInt8) (hp : p.length = 64) : RpS w p b (((w.alloc (.cells (byteVals p).toArray 32)).alloc (.cells (byteVals b).toArray 37)).alloc (.cells zeroCells 32)) where
  page := ((pageAt_new w p _ hp).alloc _).alloc _
  arr := by
    have h := (rowAt_new (w.alloc (.cells (byteVals p).toArray 32)) (byteVals b) 37).alloc (.cells zeroCells 32)
    rw [World.size_alloc] at h
    exact h
  out := by
    have h := pageAt_zeros ((w.alloc (.cells (byteVals p).toArray 32)).alloc (.cells (byteVals b).toArray 37)) 32
    simp only [World.size_alloc] at h
    exact h
  below := (((Below.refl _ _).alloc (Nat.le_refl _) _).alloc (by simp) _).alloc (by simp; omega) _
theorem over_one (p b : List UInt8) (A k : Nat) (h : k < b.length) (ha : A + b.length ≤ p.length) : (Pg.over p A (b.take k)).set (A + k) b[k] = Pg.over p A (b.take (k + 1)) := by
  have e : (b.take k).length = k := by simp; omega
  have := Pg.over_set_behind p A (b.take k) b[k] (by rw [e]; omega)
  rw [e] at this
  rw [this, List.take_succ_eq_append_getElem h]

set_option maxRecDepth 100000 in
set_option maxHeartbeats 4000000 in
theorem refPut_any (p : List UInt8) (i : Nat) (b : List UInt8) (w : World) (hp : p.length = 64) (hi : i < 4) (hb : b.length = 16) :
    Calls Try.prog 15 #[pageV p, .int .i64 (i : Int), pageV b] w fun e w' => e = .returned (pageV (Nm.lay p i b)) ∧ Below w.heap.size w w' := by
  have hS := rpS_box w p b hp
  rw [zeroCells_def] at hS
  have S := Lib.hid hS
  clear hS
  obtain ⟨A, hA⟩ : ∃ A : Nat, A = 16 * i := ⟨_, rfl⟩
  have HA := Lib.hid hA
  have hAi : (16 : Int) * (i : Int) = (A : Int) := by omega
  have hA64 : A + 16 ≤ 64 := by omega
  have HP := Lib.hid hp
  have HB := Lib.hid hb
  unfold Nm.lay
  rw [← HA.out]
  clear hp hb hA
  unfold pageV
  go_enter Try.func15, Try.ntmps15
  go_wp2_with fail
  generalize ((w.alloc (.cells (byteVals p).toArray 32)).alloc (.cells (byteVals b).toArray 37)).alloc _ = w1 at S ⊢
  go_loopw [7] (fun x wr => ∃ k : Nat, k ≤ 16 ∧ x = .int .i64 (k : Int) ∧ Hid (RpS w (Pg.over p A (b.take k)) b wr)) (fun x _ => 16 - (intOf x).toNat)
  case atStart => exact ⟨0, by omega, rfl, Lib.hid (by rw [List.take_zero, Pg.over_nil]; exact S.out)⟩
  case round =>
    clear S
    obtain ⟨k, hk, rfl, S⟩ := hrel
    by_cases hlt : k < 16
    · obtain ⟨x, hx⟩ : ∃ x : UInt8, b[k]'(by rw [HB.out]; exact hlt) = x := ⟨_, rfl⟩
      obtain ⟨j, hj⟩ : ∃ j, A + k = j := ⟨_, rfl⟩
      have hidx : (A : Int) + (k : Int) = (j : Int) := by omega
      have hj64 : j < 64 := by omega
      have hc0 := S.out.arr.cell k (.int .u8 (x.toNat : Int)) (by rw [byteVals_at b k (by rw [HB.out]; exact hlt), hx])
      have hc := S.out.page.cell j hj64
      have hf := S.out.page.frozen j hj64
      have HJ := Lib.hid hj
      have HX := Lib.hid hx
      clear hj hx
      go_wp2
      have S3 := Lib.hid (S.out.set j x hj64)
      clear hc hf hc0
      go_roundw
      case rel => exact ⟨k + 1, by omega, by go_num, Lib.hid (by
        have := S3.out
        rw [← HJ.out, ← HX.out, over_one p b A k (by rw [HB.out]; exact hlt) (by rw [HB.out, HP.out]; exact hA64)] at this
        rw [← HJ.out, ← HX.out]
        exact this)⟩
      case measure => simp [intOf]; omega
    · obtain rfl : k = 16 := by omega
      have e : b.take 16 = b := List.take_of_length_le (by rw [HB.out]; exact Nat.le_refl _)
      rw [e] at S
      clear e
      have L := Lib.hid S.out.page.len
      go_wp2_with (first
        | (with_reducible refine wpList_load_page S.out.page rfl (.tmp 3) rfl rfl ?_)
        | ((with_reducible refine wpList_store_page S.out.out L.out rfl (.tmp 6) (.tmp 20) rfl rfl ?_ ?_); (exact rfl)))
      exact bodyPost_ret (results_page _ 6 rfl _ S.out.back.1 rfl) rfl ⟨rfl, S.out.back.2⟩

/-! ### sixteen bytes held against sixteen -/
theorem run_eqSixteen (w : World) (p q : List UInt8) (hp : p.length = 16) (hq : q.length = 16) : (Op.equalIn 10000 37 (pageV p) (pageV q)).run Try.prog w = .ok (decide (p = q)) w := by
  obtain ⟨i, hi⟩ := info8
  unfold pageV
  rw [run_equalIn_array w 9999 _ _ Try.underlying37 hi, cells8, List.range_eq_range']
  have := run_eqBytes w p q (hp.trans hq.symm) 9998 16 0 (by omega)
  simpa using this
theorem run_eql_sixteen (w : World) (p q : List UInt8) (hp : p.length = 16) (hq : q.length = 16) : (binOp .eql 37 (pageV p) (pageV q)).run Try.prog w = .ok (.bool (decide (p = q))) w := by
  have h := run_eqSixteen w p q hp hq
  unfold pageV at h ⊢
  rw [run_eql_struct, h]; rfl
theorem run_neq_sixteen (w : World) (p q : List UInt8) (hp : p.length = 16) (hq : q.length = 16) : (binOp .neq 37 (pageV p) (pageV q)).run Try.prog w = .ok (.bool (!decide (p = q))) w := by
  have h := run_eqSixteen w p q hp hq
  unfold pageV at h ⊢
  rw [run_neq_struct, h]; rfl
theorem run_guard_sixteen (w : World) (x y : Operand) (p q : List UInt8) : (eqGuard .neq 37 x y (pageV p) (pageV q)).run Try.prog w = .ok () w :=
  run_eqGuard_agg w .neq 37 x y _ _ (by kernel_rfl)
theorem run_guard_sixteenE (w : World) (x y : Operand) (p q : List UInt8) : (eqGuard .eql 37 x y (pageV p) (pageV q)).run Try.prog w = .ok () w :=
  run_eqGuard_agg w .eql 37 x y _ _ (by kernel_rfl)
end Go.Proofs.Ytejedkdlehgnpaa
