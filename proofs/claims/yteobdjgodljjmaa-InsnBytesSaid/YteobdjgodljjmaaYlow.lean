/-
  The document's own low: a number's lowest bytes, as a text.
-/
import Derived.Test.YteobdjgodljjmaaYmem
import Derived.Laws.IdiomStrings
import Derived.IntWalk
namespace Go.Proofs.Yteobdjgodljjmaa
open Go.RowKit

def strOf (l : List UInt8) : ByteArray := ⟨l.toArray⟩
theorem strOf_size (l : List UInt8) : (strOf l).size = l.length := by simp [strOf, ByteArray.size]
theorem strOf_bytes (s : ByteArray) : strOf s.data.toList = s := by simp [strOf]
theorem strOf_app (a b : List UInt8) : strOf (a ++ b) = strOf a ++ strOf b := by
  unfold strOf
  apply ByteArray.ext
  simp [ByteArray.data_append]
theorem strOf_list (l : List UInt8) : (strOf l).data.toList = l := by simp [strOf]

theorem RowAt.set1 {w : World} {b : Nat} {vs : List Value} (h : RowAt w b vs) (i : Nat) (v : Value) (hi : i < vs.length) : RowAt (w.setCell ⟨b, i, none⟩ v) b (vs.set i v) where
  range := fun j u hu => by
    rw [Nat.zero_add]
    rw [List.getElem?_set] at hu
    by_cases e : i = j
    · subst e
      rw [if_pos rfl, if_pos hi] at hu
      injection hu with hu
      rw [← hu]
      exact World.cell?_setCell_same' _ _ _ (by rw [h.cell i _ (List.getElem?_eq_getElem hi)]; rfl)
    · rw [if_neg e] at hu
      rw [World.cell?_setCell_other _ _ _ _ (fun q => e (by injection q))]
      have := h.range j u hu
      rwa [Nat.zero_add] at this
  free := fun j hj => by
    rw [List.length_set] at hj
    rw [Nat.zero_add]
    refine ⟨?_, by rw [World.frozen?_setCell]; exact h.frozen j hj⟩
    by_cases e : i = j
    · subst e
      rw [World.cell?_setCell_same' _ _ _ (by rw [h.cell i _ (List.getElem?_eq_getElem hi)]; rfl)]; rfl
    · rw [World.cell?_setCell_other _ _ _ _ (fun q => e (by injection q))]
      rw [h.cell j _ (List.getElem?_eq_getElem hj)]; rfl

def rowB (l : List UInt8) : List Value := l.map fun c => Value.int .u8 (c.toNat : Int)
theorem rowB_length (l : List UInt8) : (rowB l).length = l.length := by simp [rowB]
def upart (n : Int) (k : Nat) : Int := n % 18446744073709551616 / 256 ^ k
theorem upart_pos (n : Int) (k : Nat) : 0 ≤ upart n k := by
  unfold upart
  exact Int.ediv_nonneg (Int.emod_nonneg _ (by decide)) (Int.pow_nonneg (by decide))
theorem upart_lt (n : Int) (k : Nat) : upart n k < 18446744073709551616 := by
  unfold upart
  have h1 := Int.emod_lt_of_pos n (show (0 : Int) < 18446744073709551616 by decide)
  have h0 := Int.emod_nonneg n (show (18446744073709551616 : Int) ≠ 0 by decide)
  exact Int.lt_of_le_of_lt (Int.ediv_le_self _ h0) h1
theorem upart_next (n : Int) (k : Nat) : upart n k / 256 = upart n (k + 1) := by
  unfold upart
  rw [Int.pow_succ, Int.ediv_ediv_of_nonneg (Int.pow_nonneg (by decide))]
theorem upart_byte (n : Int) (k : Nat) (h : k ≤ 3) : upart n k % 256 = ((Y.byteAt k n).toNat : Int) := by
  rw [Y.byteAt_nat]
  unfold upart
  have : k = 0 ∨ k = 1 ∨ k = 2 ∨ k = 3 := by omega
  rcases this with rfl | rfl | rfl | rfl
  · rw [show (256 : Int) ^ 0 = 1 from rfl]; omega
  · rw [show (256 : Int) ^ 1 = 256 from rfl]; omega
  · rw [show (256 : Int) ^ 2 = 65536 from rfl]; omega
  · rw [show (256 : Int) ^ 3 = 16777216 from rfl]; omega
/-- between the rounds of low -/
structure LowS (w : World) (m j : Nat) (n : Int) (W : World) : Prop where
  row : RowAt W w.heap.size (rowB (List.replicate j 0 ++ Y.low (m - j) n))
  bel : Below w.heap.size w W
theorem low_row {w : World} {m q : Nat} {n : Int} {W : World} (h : LowS w m (q + 1) n W) (hq : q + 1 ≤ m) : LowS w m q n (W.setCell ⟨w.heap.size, q, none⟩ (.int .u8 ((Y.byteAt (m - (q + 1)) n).toNat : Int))) where
  row := by
    have := h.row.set1 q (.int .u8 ((Y.byteAt (m - (q + 1)) n).toNat : Int)) (by rw [rowB_length, List.length_append, List.length_replicate]; omega)
    have e : (rowB (List.replicate (q + 1) 0 ++ Y.low (m - (q + 1)) n)).set q (.int .u8 ((Y.byteAt (m - (q + 1)) n).toNat : Int)) = rowB (List.replicate q 0 ++ Y.low (m - q) n) := by
      rw [show m - q = (m - (q + 1)) + 1 by omega, Y.low, List.replicate_succ', List.append_assoc]
      unfold rowB
      rw [List.map_append, List.set_append_right _ _ (by simp), List.map_append]
      simp
    rw [e] at this
    exact this
  bel := h.bel.setCell (Nat.le_refl _) _
theorem low_cell {w : World} {m q : Nat} {n : Int} {W : World} (h : LowS w m (q + 1) n W) : W.cell? ⟨w.heap.size, q, none⟩ = some (.int .u8 0) ∧ W.frozen? ⟨w.heap.size, q, none⟩ = false :=
  ⟨h.row.cell q _ (by unfold rowB; rw [List.map_append, List.getElem?_append_left (by simp), List.map_replicate, List.getElem?_replicate, if_pos (by omega)]; rfl), h.row.frozen q (by rw [rowB_length, List.length_append, List.length_replicate]; omega)⟩
theorem low_text {w : World} {m : Nat} {n : Int} {W : World} (h : LowS w m 0 n W) : (convert 46 9 (.slice (some ⟨w.heap.size, 0, none⟩) m m)).run Try.prog W = .ok (.string (strOf (Y.low m n))) W := by
  have := run_convert_bytes_back (P := Try.prog) W 46 9 5 ⟨w.heap.size, 0, none⟩ m (Y.low m n) Try.underlying46 Try.underlying5 Try.underlying9 (fun j hj => by
    rw [Addr.add_mid, Nat.zero_add]
    refine h.row.cell j _ ?_
    unfold rowB
    rw [List.replicate_zero, List.nil_append, Nat.sub_zero, List.getElem?_map, List.getElem?_eq_getElem hj]
    rfl)
  rw [Y.low_length] at this
  exact this
def LowMake (m : Nat) (w : World) : Prop := ∃ w1, (Instr.makeSlice 46 (.int .i64 (m : Int)) (.int .i64 (m : Int))).run Try.prog w = .ok (.slice (some ⟨w.heap.size, 0, none⟩) m m) w1 ∧ LowS w m m 0 w1
theorem low_make (m : Nat) (w : World) (h : m = 1 ∨ m = 2 ∨ m = 4) : LowMake m w := by
  rcases h with rfl | rfl | rfl
  · exact ⟨w.alloc (.cells #[.int .u8 0] 5), by kernel_rfl, ⟨rowAt_new w (rowB [0]) _, (Below.refl _ _).alloc (Nat.le_refl _) _⟩⟩
  · exact ⟨w.alloc (.cells #[.int .u8 0, .int .u8 0] 5), by kernel_rfl, ⟨rowAt_new w (rowB [0, 0]) _, (Below.refl _ _).alloc (Nat.le_refl _) _⟩⟩
  · exact ⟨w.alloc (.cells #[.int .u8 0, .int .u8 0, .int .u8 0, .int .u8 0] 5), by kernel_rfl, ⟨rowAt_new w (rowB [0, 0, 0, 0]) _, (Below.refl _ _).alloc (Nat.le_refl _) _⟩⟩
theorem LowS.any {w : World} {m : Nat} {n k : Int} {W : World} (h : LowS w m m n W) : LowS w m m k W := ⟨by have := h.row; rw [Nat.sub_self] at this ⊢; exact this, h.bel⟩
set_option maxHeartbeats 1000000 in
theorem low_any (n : Int) (m : Nat) (w : World) (h : m = 1 ∨ m = 2 ∨ m = 4) :
    Calls Try.prog 26 #[.int .i64 n, .int .i64 (m : Int)] w fun e w' => e = .returned (.string (strOf (Y.low m n))) ∧ Below w.heap.size w w' := by
  obtain ⟨w1, hmk, hS⟩ := low_make m w h
  have S0 := Lib.hid (hS.any (k := n))
  have hm1 : 1 ≤ m := by omega
  have hm4 : m ≤ 4 := by omega
  clear hS h
  obtain ⟨u0, hu0⟩ : ∃ u, u = upart n 0 := ⟨_, rfl⟩
  have hwrap : IntKind.u64.wrap n = u0 := by rw [hu0, IntKind.wrap_u64]; unfold upart; simp
  have HU0 := Lib.hid hu0
  clear hu0
  go_enter Try.func26, Try.ntmps26
  go_wp2
  go_loopw [6, 7] (fun u i wr => ∃ (j : Nat) (x : Int), j ≤ m ∧ i = .int .i64 ((j : Int) - 1) ∧ u = .int .u64 x ∧ Hid (x = upart n (m - j)) ∧ Hid (LowS w m j n wr)) (fun _ i _ => (intOf i + 1).toNat)
  case atStart => exact ⟨m, u0, Nat.le_refl _, rfl, rfl, by rw [Nat.sub_self]; exact HU0, S0⟩
  case round =>
    clear S0 hwrap HU0 hmk
    obtain ⟨j, x, hj, rfl, rfl, HX, S⟩ := hrel
    match j, hj, HX, S with
    | 0, _, HX, S =>
      have HT := low_text S.out
      go_wp2
      go_ret
      exact ⟨rfl, S.out.bel⟩
    | q + 1, hj, HX, S =>
      have e1 : ((q + 1 : Nat) : Int) - 1 = (q : Int) := by omega
      rw [e1]
      clear e1
      obtain ⟨hc, hf⟩ := low_cell S.out
      have HX0 : 0 ≤ x := by rw [HX.out]; exact upart_pos _ _
      have hb : x % 256 = ((Y.byteAt (m - (q + 1)) n).toNat : Int) := by rw [HX.out]; exact upart_byte _ _ (by omega)
      have hd : x / 256 = upart n (m - q) := by rw [HX.out, upart_next]; congr 1; omega
      obtain ⟨y, hy⟩ : ∃ y, y = upart n (m - q) := ⟨_, rfl⟩
      rw [← hy] at hd
      have hd2 : x.tdiv 256 = y := by rw [Int.tdiv_eq_ediv_of_nonneg HX0]; exact hd
      have HY := Lib.hid hy
      clear hy
      have S2 := Lib.hid (low_row S.out hj)
      obtain ⟨c, hcc⟩ : ∃ c, c = Y.byteAt (m - (q + 1)) n := ⟨_, rfl⟩
      rw [← hcc] at hb S2
      have hb2 : x.tmod 256 = (c.toNat : Int) := by rw [Int.tmod_eq_emod_of_nonneg HX0]; exact hb
      clear hcc S HX
      have hq1 : q < m := by omega
      have hwr : IntKind.u64.wrap y = y := by
        have h1 := upart_pos n (m - q); have h2 := upart_lt n (m - q); rw [← HY.out] at h1 h2
        rw [IntKind.wrap_u64]; omega
      have hwc : IntKind.u8.wrap (c.toNat : Int) = (c.toNat : Int) := by have := c.toNat_lt; rw [IntKind.wrap_u8]; omega
      go_wp2
      go_roundw
      case rel => exact ⟨q, y, by omega, rfl, rfl, HY, S2⟩
      case measure => (simp [intOf] <;> omega)
end Go.Proofs.Yteobdjgodljjmaa
