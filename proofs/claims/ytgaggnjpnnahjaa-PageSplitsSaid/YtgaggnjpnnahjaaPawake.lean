/-
  The contract of awake: the document's example holds.
-/
import Derived.Test.YtgaggnjpnnahjaaPset
namespace Go.Proofs.Ytgaggnjpnnahjaa
open Go.RowKit

def exampleP : List UInt8 := Pg.setN zeros 3 2 258
theorem example_length : exampleP.length = 64 := Pg.setN_length zeros 3 2 258 zeros_length
theorem example_get : Pg.getN exampleP 3 2 = 258 := by decide
theorem example_at : exampleP.getD 3 0 = 1 ∧ exampleP.getD 4 0 = 2 ∧ exampleP.getD 2 0 = 0 ∧ exampleP.getD 5 0 = 0 := by decide
theorem example_cells {w : World} {b : Nat} (h : PageAt w b exampleP) : w.cell? ⟨b, 3, none⟩ = some (.int .u8 1) ∧ w.cell? ⟨b, 4, none⟩ = some (.int .u8 2) ∧ w.cell? ⟨b, 2, none⟩ = some (.int .u8 0) ∧ w.cell? ⟨b, 5, none⟩ = some (.int .u8 0) := by
  obtain ⟨e1, e2, e3, e4⟩ := example_at
  refine ⟨?_, ?_, ?_, ?_⟩
  · rw [h.cell 3 (by omega), e1]; rfl
  · rw [h.cell 4 (by omega), e2]; rfl
  · rw [h.cell 2 (by omega), e3]; rfl
  · rw [h.cell 5 (by omega), e4]; rfl

set_option maxHeartbeats 1000000 in
set_option maxRecDepth 100000 in
theorem awake_any (w : World) :
    Calls Try.prog 7 #[] w fun e w' => e = .returned (.bool true) ∧ Below w.heap.size w w' := by
  go_enter Try.func7, Try.ntmps7
  go_wp2_with fail
  rw [← zeroCells_def]
  refine (set_any zeros 3 2 258 w zeros_length (by omega) (by omega)).mono ?_
  rintro e w1 ⟨rfl, hb⟩
  have HL := Lib.hid example_length
  have HC := Lib.hid (fun (w : World) (b : Nat) (h : PageAt w b exampleP) => example_cells h)
  have HG := Lib.hid example_get
  change Hid ((Pg.setN zeros 3 2 258).length = 64) at HL
  change Hid (∀ (w : World) (b : Nat) (h : PageAt w b (Pg.setN zeros 3 2 258)), _) at HC
  change Hid (Pg.getN (Pg.setN zeros 3 2 258) 3 2 = 258) at HG
  generalize Pg.setN zeros 3 2 258 = q at HL HC HG ⊢
  go_wp2_with (first
    | (refine wpList_store_new rfl (.tmp 1) (.tmp 3) rfl rfl rfl rfl HL.out ?_; intro W2 hP hB2 hz; obtain ⟨c1, c2, c3, c4⟩ := HC.out W2 _ hP)
    | (refine wpList_load_guarded hP (.tmp 1) rfl rfl (by kernel_rfl) ?_))
  refine (get_any q 3 2 W2 HL.out (by omega) (by omega)).mono ?_
  rintro e w3 ⟨rfl, hb3⟩
  rw [HG.out]
  obtain ⟨d1, d2, d3, d4⟩ := HC.out w3 _ (hP.below hb3 (by omega))
  go_wp2_with fail
  go_ret
  exact ⟨rfl, hb.trans ((hB2.trans (hb3.mono (by omega))).mono hb.size)⟩
end Go.Proofs.Ytgaggnjpnnahjaa
