/-
  The document's example is answered as the document says.
-/
import Derived.Test.YthccgfnoolbiiaaHleaf
import Derived.Test.YthccgfnoolbiiaaHwds
namespace Go.Proofs.Ythccgfnoolbiiaa
open Go.RowKit Go.Maps Pq

theorem awake_words (w : World) : Calls Try.prog 17 #[.string ⟨#[97]⟩] w fun e w' => e = .returned (.tuple #[.int .i64 6989868096655720448, .int .i64 0]) ∧ Below w.heap.size w w' := by
  have h := words_any ⟨#[97]⟩ w
  have e : Hk.words (⟨#[97]⟩ : ByteArray).data.toList = (6989868096655720448, 0) := by kernel_rfl
  rw [e] at h
  exact h
theorem awake_in (w : World) : Calls Try.prog 11 #[.int .i64 1] w fun e w' => e = .returned (.int .i64 4) ∧ w = w' := in_any 1 w
set_option maxRecDepth 100000 in
set_option maxHeartbeats 1000000 in
theorem awake_any (w : World) : Calls Try.prog 7 #[] w fun e w' => e = .returned (.bool true) ∧ Below w.heap.size w w' := by
  go_enter Try.func7, Try.ntmps7
  go_wp2_with (go_at_call 17; refine (awake_words _).mono ?_; rintro e w' ⟨rfl, hb⟩)
  go_wp2_with (go_at_call 11; refine (awake_in _).mono ?_; rintro e w2 ⟨rfl, rfl⟩)
  go_ret
  exact ⟨rfl, hb⟩
end Go.Proofs.Ythccgfnoolbiiaa
