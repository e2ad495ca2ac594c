/-
  What stands in memory at Get: the page, the inode that is handed back, the inode that is made.
-/
import Derived.Test.YtchlhnpnenafnaaIclr
namespace Go.Proofs.Ytchlhnpnenafnaa
open Go.RowKit
open Ii (Ino)

structure BxS (w0 : World) (p : List UInt8) (W : World) : Prop where
  page : PageAt W w0.heap.size p
  out : RowAt W (w0.heap.size + 1) (inoL Ii.zero)
  below : Below w0.heap.size w0 W
theorem BxS.call {w0 : World} {p : List UInt8} {W W' : World} (k : BxS w0 p W) (hb : Below W.heap.size W W') : BxS w0 p W' :=
  ⟨k.page.step hb, RowAt.step k.out hb, k.below.trans (hb.mono k.below.size)⟩
theorem BxS.drew {w0 : World} {p : List UInt8} {W : World} (k : BxS w0 p W) : BxS w0 p W.drew := ⟨k.page.drew, k.out.drew, k.below.drew⟩
theorem bxS_box (w : World) (p : List UInt8) (t : TypeId) (hp : p.length = 64) : BxS w p ((w.alloc (.cells (byteVals p).toArray 23)).alloc (.cells (inoL Ii.zero).toArray t)) where
  page := (pageAt_new w p _ hp).alloc _
  out := by
    have h := rowAt_new (w.alloc (.cells (byteVals p).toArray 23)) (inoL Ii.zero) t
    rw [World.size_alloc] at h
    exact h
  below := ((Below.refl _ _).alloc (Nat.le_refl _) _).alloc (by simp) _
theorem RowAt.setOther {w : World} {b : Nat} {vs : List Value} (h : RowAt w b vs) (b' i : Nat) (v : Value) (hb : b ≠ b') : RowAt (w.setCell ⟨b', i, none⟩ v) b vs :=
  ⟨fun j u hu => by rw [World.cell?_setCell_other _ _ _ _ (fun q => hb (by injection q with q; exact q.symm))]; exact h.range j u hu,
    fun j hj => by rw [World.cell?_setCell_other _ _ _ _ (fun q => hb (by injection q with q; exact q.symm)), World.frozen?_setCell]; exact h.free j hj⟩
theorem RowAt.setOne {w : World} {b : Nat} {vs : List Value} (h : RowAt w b vs) (i : Nat) (v : Value) (hi : i < vs.length) : RowAt (w.setCell ⟨b, i, none⟩ v) b (vs.set i v) where
  range := fun j u hu => by
    rw [Nat.zero_add]
    rw [List.getElem?_set] at hu
    by_cases e : i = j
    · subst e
      rw [if_pos rfl, if_pos hi] at hu
      injection hu with hu
      rw [← hu]
      exact World.cell?_setCell_same' _ _ _ (by rw [h.cell i _ (List.getElem?_eq_getElem hi)]; rfl)
    · rw [if_neg e] at hu
      rw [World.cell?_setCell_other _ _ _ _ (fun q => e (by injection q))]
      exact h.cell j u hu
  free := fun j hj => by
    rw [List.length_set] at hj
    rw [Nat.zero_add]
    refine ⟨?_, by rw [World.frozen?_setCell]; exact h.frozen j hj⟩
    by_cases e : i = j
    · subst e
      rw [World.cell?_setCell_same' _ _ _ (by rw [h.cell i _ (List.getElem?_eq_getElem hi)]; rfl)]; rfl
    · rw [World.cell?_setCell_other _ _ _ _ (fun q => e (by injection q)), h.cell j _ (List.getElem?_eq_getElem hj)]; rfl
theorem BxS.setOut {w0 : World} {p : List UInt8} {W : World} (k : BxS w0 p W) (g i : Nat) (v : Value) (hg : w0.heap.size + 1 < g) : BxS w0 p (W.setCell ⟨g, i, none⟩ v) :=
  ⟨k.page.set_other _ _ _ (by omega), k.out.setOther _ _ _ (by omega), k.below.setCell (by show w0.heap.size ≤ g; omega) _⟩
theorem BxS.back {w0 : World} {p : List UInt8} {W : World} (k : BxS w0 p W) (y : Ino) : RowAt (W.setCells (w0.heap.size + 1) 0 (inoL y)) (w0.heap.size + 1) (inoL y) ∧ Below w0.heap.size w0 (W.setCells (w0.heap.size + 1) 0 (inoL y)) :=
  ⟨k.out.put (inoL y) rfl, below_setCells _ (by omega) _ _ _ k.below⟩
/-- the same, and the inode that is made, empty or laid in -/
def GtS (w0 : World) (p : List UInt8) (y : Ino) (s : Option (Nat × Bool)) (W : World) : Prop :=
  BxS w0 p W ∧ match s with
    | none => True
    | some (g, b) => w0.heap.size + 1 < g ∧ RowAt W g (inoL (if b = true then y else Ii.zero))
theorem GtS.call {w0 : World} {p : List UInt8} {y : Ino} {s : Option (Nat × Bool)} {W W' : World} (k : GtS w0 p y s W) (hb : Below W.heap.size W W') : GtS w0 p y s W' := by
  refine ⟨BxS.call k.1 hb, ?_⟩
  match s, k with
  | none, _ => trivial
  | some (g, b), k => exact ⟨k.2.1, RowAt.step k.2.2 hb⟩
theorem GtS.alloc {w0 : World} {p : List UInt8} {y : Ino} {W : World} {t : TypeId} (k : BxS w0 p W) : GtS w0 p y (some (W.heap.size, false)) (W.alloc (.cells (inoL Ii.zero).toArray t)) :=
  ⟨⟨k.page.alloc _, k.out.alloc _, k.below.alloc k.below.size _⟩, k.out.lt, rowAt_new W (inoL Ii.zero) t⟩
theorem GtS.put {w0 : World} {p : List UInt8} {y : Ino} {g : Nat} {b : Bool} {W : World} (k : GtS w0 p y (some (g, b)) W) : GtS w0 p y (some (g, true)) (W.setCells g 0 (inoL y)) := by
  obtain ⟨k1, k2, k3⟩ := k
  exact ⟨⟨k1.page.put_other _ _ _ (by omega), k1.out.put_other _ _ _ (by omega), below_setCells _ (by omega) _ _ _ k1.below⟩, k2, k3.put (inoL y) rfl⟩
theorem results_row1 {t : TypeId} {n : Nat} (ht : RowT t n) (fn : Func) (s : Nat) (hf : fn.results = #[.cell s t]) {w : World} {b : Nat} {vs : List Value} (tmps : Array Value) (k : RowAt w b vs) (hl : vs.length = n) (hs : tmps.getD s undef = .pointer (some ⟨b, 0, none⟩)) :
    (results fn tmps).run Try.prog w = .ok (.agg vs.toArray) w := results_row ht fn s hf tmps k hl hs
end Go.Proofs.Ytchlhnpnenafnaa
