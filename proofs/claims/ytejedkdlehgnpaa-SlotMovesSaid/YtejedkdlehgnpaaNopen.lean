/-
  Arguments that are entries, opened.
-/
import Derived.Test.YtejedkdlehgnpaaNrows
import Derived.Test.YtejedkdlehgnpaaPopen
namespace Go.Proofs.Ytejedkdlehgnpaa
open Go.ChangeShapes Go.WideShapes Go.ChangeAt Go.RowKit

theorem cellsI : Try.prog.cellsOf 3 = 1 := by kernel_rfl
theorem cellsStr : Try.prog.cellsOf 9 = 1 := by kernel_rfl
theorem cellsE : Try.prog.cellsOf 23 = 2 := by kernel_rfl
theorem ent_cells {H : Type} {enc : TypeId × Value → H} {W : World} {fuel : Nat} {base : Nat} {spare : Nat → Bool} {held : Bool} {cs : List Value} {z : DataW H × List MemPlace} (ht : DataW.trod enc Try.prog W base spare held fuel 23 cs = some z) :
    ∃ (n : Int) (s : ByteArray), cs = entL n s ∧ s.size ≤ maxLen := by
  obtain ⟨xs, n, _, rfl, hcl, hlen, hf⟩ := DataW.trod_struct Try.underlying23 ht
  rw [cellsE] at hcl
  match xs, hlen with
  | [y0, y1], _ =>
    obtain ⟨k, e0, _, _⟩ := DataW.trod_int Try.underlying3 (hf 0 _ rfl)
    obtain ⟨s, e1, _, w1⟩ := DataW.trod_string Try.underlying9 (hf 1 _ rfl)
    have c0 : (cs.drop 0).take (Try.prog.cellsOf 3) = [.int .i64 k] := e0
    have c1 : (cs.drop 1).take (Try.prog.cellsOf 9) = [.string s] := e1
    rw [cellsI] at c0
    rw [cellsStr] at c1
    refine ⟨k, s, ?_, w1⟩
    match cs, hcl with
    | [v0, v1], _ =>
      simp at c0 c1
      subst c0 c1
      rfl
theorem entV_def (n : Int) (s : ByteArray) : Value.agg (entL n s).toArray = entV n s := rfl
theorem open_ent {H : Type} {enc : TypeId × Value → H} {W : World} {base : Nat} {v : Value} {d : DataW H} {p : List MemPlace} (hv : Value.okWide Try.prog W .any base 23 v)
    (h : DataW.Trod enc Try.prog W 0 (fun _ => true) true 23 v d p) : ∃ n s, v = entV n s ∧ s.size ≤ maxLen := by
  obtain ⟨cs, rfl, hsz⟩ := okWide_struct Try.underlying23 hv
  obtain ⟨fuel, hf⟩ := h
  obtain ⟨n, s, he, hs⟩ := ent_cells hf
  refine ⟨n, s, ?_, hs⟩
  rw [← entV_def, ← he]
  simp [Value.cells]
end Go.Proofs.Ytejedkdlehgnpaa
