/-
  The document's example: awake returns true.
-/
import Derived.Test.YtjjejdjhlnlhiaaBcount
namespace Go.Proofs.Ytjjejdjhlnlhiaa
open Go.RowKit
open Dk (zeros zeros_length)

/-- the bytes of the example -/
def exB : List UInt8 := Bt.setB zeros 9 true
theorem exB_get : Bt.getB exB 9 = true := by kernel_rfl
theorem exB_first : Bt.first exB 0 512 = 0 := by kernel_rfl
theorem exB_count : ((Bt.all exB true 0 512).length : Int) = 1 := by kernel_rfl
theorem exB_byte : exB.getD 1 0 = 2 := by kernel_rfl
theorem exB_length : exB.length = 64 := by kernel_rfl
theorem zeroPage (w : World) : (zeroValue 43).run Try.prog w = .ok (.agg zeroCells) w := by kernel_rfl
theorem row_zeros (w : World) (t : TypeId) : Row (w.alloc (.cells zeroCells t)) (some ⟨w.heap.size, 0, none⟩) 1 zeros where
  len := zeros_length
  small := by unfold maxLen; omega
  nul := fun q => by cases q
  cells := fun _ => ⟨w.heap.size, 0, rfl, by simp, fun j hj => by rw [Nat.zero_add]; exact (pageAt_zeros w t).cell j (by omega)⟩
set_option maxRecDepth 100000 in
set_option maxHeartbeats 1000000 in
theorem awake_any (w : World) : Calls Try.prog 6 #[] w fun e w' => e = .returned (.bool true) ∧ Below w.heap.size w w' := by
  go_enter Try.func6, Try.ntmps6
  go_wp2_with fail
  rw [← zeroCells_def]
  refine (set_any 9 true _ 1 1 zeros _ (row_zeros w 43) (by omega)).mono ?_
  rintro e w1 ⟨v, rfl, ho, hb⟩
  have hb1 : Below w.heap.size w w1 := ((Below.refl _ w).alloc (Nat.le_refl _) _).trans (hb.mono (by simp))
  obtain ⟨g, c', rfl, _, _⟩ := World.ownsRow.form ho (by omega)
  obtain ⟨A', c2, e, HR0, _⟩ := OwnB.form ho
  injection e with e1 e2 e3
  subst e1
  have hcell : w1.cell? ⟨g, 1, none⟩ = some (.int .u8 2) := by
    have h1 : 1 < (Bt.setB zeros 9 true).length := by rw [Bt.setB_length, zeros_length]; omega
    have := World.ownsRow.cellAt ho 1 (by omega)
    rw [this, byteVals_at _ _ h1]
    have h2 : (Bt.setB zeros 9 true)[1] = 2 := by kernel_rfl
    rw [h2]; rfl
  have HR := Lib.hid HR0; clear HR0
  have hb2 := Lib.hid hb1
  clear ho hb e2 e3 hb1
  generalize zeroCells = Z
  go_wp2_with (first
    | (go_at_call 8; refine (get_any _ _ _ _ _ _ HR.out (by omega)).mono ?_; rintro e w2 ⟨rfl, i, rfl⟩; rw [show Bt.getB (Bt.setB zeros 9 true) 9 = true from exB_get])
    | (go_at_call 16; refine (first_any _ _ _ _ _ _ _ (HR.out.drewN _) (by omega)).mono ?_; rintro e w3 ⟨rfl, hb3⟩; rw [show Bt.first (Bt.setB zeros 9 true) 0 512 = 0 from exB_first]; have HR3 := Lib.hid ((HR.out.drewN i).step hb3); have hb4 := Lib.hid ((hb2.out.trans (below_drewN _ _ i)).trans (hb3.mono hb2.out.size)); clear hb3)
    | (go_at_call 15; refine (count_any _ _ _ _ _ _ _ HR3.out (by omega)).mono ?_; rintro e w4 ⟨rfl, hb5⟩; rw [show ((Bt.all (Bt.setB zeros 9 true) true 0 512).length : Int) = 1 from exB_count]))
  go_ret
  exact ⟨rfl, hb4.out.trans (hb5.mono hb4.out.size)⟩
end Go.Proofs.Ytjjejdjhlnlhiaa
