/-
  Arguments that are inodes, opened; the contract of inode.Attr.
-/
import Derived.Test.YtchlhnpnenafnaaPopen
import Derived.Test.YtchlhnpnenafnaaIcnt
namespace Go.Proofs.Ytchlhnpnenafnaa
open Go.ChangeShapes Go.WideShapes Go.ChangeAt Go.RowKit
open Ii (Ino)

theorem ino_cells {H : Type} {enc : TypeId × Value → H} {W : World} {fuel : Nat} {base : Nat} {spare : Nat → Bool} {held : Bool} {cs : List Value} {z : DataW H × List MemPlace} (ht : DataW.trod enc Try.prog W base spare held fuel 26 cs = some z) :
    ∃ x : Ino, cs = inoL x := by
  obtain ⟨xs, n, _, rfl, hcl, hlen, hf⟩ := DataW.trod_struct Try.underlying26 ht
  have hC : Try.prog.cellsOf 26 = 11 := by kernel_rfl
  have hA : Try.prog.cellsOf 24 = 4 := by kernel_rfl
  rw [hC] at hcl
  match xs, hlen with
  | [y0, y1, y2, y3, y4, y5, y6, y7], _ =>
    obtain ⟨k, e0, _, _⟩ := DataW.trod_int Try.underlying3 (hf 0 _ rfl)
    obtain ⟨p, e1, _, _⟩ := DataW.trod_int Try.underlying3 (hf 1 _ rfl)
    obtain ⟨u, e2, _, _⟩ := DataW.trod_int Try.underlying3 (hf 2 _ rfl)
    obtain ⟨l, e3, _, _⟩ := DataW.trod_int Try.underlying3 (hf 3 _ rfl)
    obtain ⟨s, e4, _, _⟩ := DataW.trod_int Try.underlying3 (hf 4 _ rfl)
    obtain ⟨e, e9, _, _⟩ := DataW.trod_int Try.underlying3 (hf 6 _ rfl)
    obtain ⟨f, e10, _, _⟩ := DataW.trod_int Try.underlying3 (hf 7 _ rfl)
    obtain ⟨zs, mm, _, _, hal, hxl, hx⟩ := DataW.trod_array Try.underlying24 (hf 5 _ rfl)
    have four : ∀ j, j < 4 → ∃ v : Int, ((((cs.drop 5).take 4).drop j).take 1) = [.int .i64 v] := fun j hj => by
      have hx' := hx j (by omega)
      rw [cellsI, Nat.mul_one] at hx'
      have hs : zs[j]? = some (zs[j]'(by omega)) := List.getElem?_eq_getElem (by omega)
      obtain ⟨v, hv, _, _⟩ := DataW.trod_int Try.underlying3 (hx'.trans hs)
      exact ⟨v, hv⟩
    obtain ⟨a, e5⟩ := four 0 (by omega)
    obtain ⟨b, e6⟩ := four 1 (by omega)
    obtain ⟨c, e7⟩ := four 2 (by omega)
    obtain ⟨d, e8⟩ := four 3 (by omega)
    have c0 : (cs.drop 0).take (Try.prog.cellsOf 3) = [.int .i64 k] := e0
    have c1 : (cs.drop 1).take (Try.prog.cellsOf 3) = [.int .i64 p] := e1
    have c2 : (cs.drop 2).take (Try.prog.cellsOf 3) = [.int .i64 u] := e2
    have c3 : (cs.drop 3).take (Try.prog.cellsOf 3) = [.int .i64 l] := e3
    have c4 : (cs.drop 4).take (Try.prog.cellsOf 3) = [.int .i64 s] := e4
    have c9 : (cs.drop 9).take (Try.prog.cellsOf 3) = [.int .i64 e] := e9
    have c10 : (cs.drop 10).take (Try.prog.cellsOf 3) = [.int .i64 f] := e10
    rw [cellsI] at c0 c1 c2 c3 c4 c9 c10
    refine ⟨⟨k, p, u, l, s, a, b, c, d, e, f⟩, ?_⟩
    match cs, hcl with
    | [v0, v1, v2, v3, v4, v5, v6, v7, v8, v9, v10], _ =>
      simp at c0 c1 c2 c3 c4 e5 e6 e7 e8 c9 c10
      subst c0 c1 c2 c3 c4 e5 e6 e7 e8 c9 c10
      rfl
theorem open_ino {H : Type} {enc : TypeId × Value → H} {W : World} {base : Nat} {v : Value} {d : DataW H} {p : List MemPlace} (hv : Value.okWide Try.prog W .any base 26 v)
    (h : DataW.Trod enc Try.prog W 0 (fun _ => true) true 26 v d p) : ∃ x : Ino, v = inoV x := by
  obtain ⟨cs, rfl, hsz⟩ := okWide_struct Try.underlying26 hv
  obtain ⟨fuel, hf⟩ := h
  obtain ⟨x, he⟩ := ino_cells hf
  refine ⟨x, ?_⟩
  rw [← inoV_def, ← he]
  simp [Value.cells]

set_option maxRecDepth 100000 in
set_option maxHeartbeats 1000000 in
theorem attr_any (n : Int) (x : Ino) (w : World) :
    Calls Try.prog 14 #[.int .i64 n, inoV x] w fun e w' => e = .returned (attrV n x) ∧ Below w.heap.size w w' := by
  unfold inoV
  go_enter Try.func14, Try.ntmps14
  go_wp2
  have hr := rowAt_new (w.alloc (.cells (inoL x).toArray 26)) (attrL n x) 44
  rw [World.size_alloc] at hr
  exact bodyPost_ret (results_row attrT _ 4 rfl _ hr rfl rfl) rfl ⟨rfl, ((Below.refl _ _).alloc (Nat.le_refl _) _).alloc (by simp) _⟩
end Go.Proofs.Ytchlhnpnenafnaa
