/-
  The contract of bits.those: the iterator's function value and the four variables that it holds.
-/
import Derived.Test.YtjjejdjhlnlhiaaBset
import Derived.RangeFuncNested
import Derived.RangeFuncBound
import Derived.RangeFuncCalls
import Derived.RangeFuncLeaves
import Derived.RangeFuncBox
import Derived.Shelf.Abstract
import Derived.Shelf.RegionOpen
import Derived.WalkKit
import Derived.OwnWalkIn
import Derived.TacticsInMore
import Derived.LoopNIn
import Derived.LoopIn
namespace Go.Proofs.Ytjjejdjhlnlhiaa
open Go.RowKit Go.Shelf
attribute [local go_sem] Oper.semAt_some

/-- the four variables, and the function value over them -/
structure Those (w : World) (s : Nat) (on1 : Bool) (a b : Int) (v : Value) : Prop where
  on1 : Boxed w s 4 (.bool on1)
  lo : Boxed w (s + 1) 3 (.int .i64 a)
  hi : Boxed w (s + 2) 3 (.int .i64 b)
  l : Boxed w (s + 3) 22 v
def thoseV (s : Nat) : Value := .func (.func 22) #[] #[.pointer (some ⟨s + 1, 0, none⟩), .pointer (some ⟨s + 2, 0, none⟩), .pointer (some ⟨s + 3, 0, none⟩), .pointer (some ⟨s, 0, none⟩)]
set_option maxRecDepth 100000 in
set_option maxHeartbeats 1000000 in
theorem those_any (on1 : Bool) (a b : Int) (A : Option Addr) (n c : Nat) (w : World) (hn : n ≤ 1000) :
    Calls Try.prog 21 #[.bool on1, .int .i64 a, .int .i64 b, .slice A n c] w fun e w' => e = .returned (thoseV w.heap.size) ∧ Those w' w.heap.size on1 (max a 0) (min b ((n : Int) * 512)) (.slice A n c) ∧ Below w.heap.size w w' ∧ w'.heap.size = w.heap.size + 4 := by
  go_enter Try.func21, Try.ntmps21
  go_wp2
  go_region
  have e1 : (if a < 0 then 0 else a) = max a 0 := by split <;> omega
  have e2 : (if (n : Int) * 512 < b then (n : Int) * 512 else b) = min b ((n : Int) * 512) := by split <;> omega
  rw [e1, e2]
  clear e1 e2
  obtain ⟨A0, hA0⟩ : ∃ x, max a 0 = x := ⟨_, rfl⟩
  obtain ⟨B0, hB0⟩ : ∃ x, min b ((n : Int) * 512) = x := ⟨_, rfl⟩
  rw [hA0, hB0]
  have HA0 := Lib.hid hA0; clear hA0
  have HB0 := Lib.hid hB0; clear hB0
  go_wp2
  go_ret
  rw [HA0.out, HB0.out]
  refine ⟨rfl, ⟨?_, ?_, ?_, ?_⟩, ?_, ?_⟩
  · exact (((Boxed.new w _ _).alloc _).alloc _).alloc _
  · have := ((Boxed.new (w.alloc (.cells #[.bool on1] 4)) 3 (.int .i64 (A0))).alloc (.cells #[.int .i64 B0] 3)).alloc (.cells #[.slice A n c] 22)
    rw [World.size_alloc] at this
    exact this
  · have := (Boxed.new ((w.alloc (.cells #[.bool on1] 4)).alloc (.cells #[.int .i64 (A0)] 3)) 3 (.int .i64 B0)).alloc (.cells #[.slice A n c] 22)
    rw [World.size_alloc, World.size_alloc] at this
    exact this
  · have := Boxed.new (((w.alloc (.cells #[.bool on1] 4)).alloc (.cells #[.int .i64 (A0)] 3)).alloc (.cells #[.int .i64 B0] 3)) 22 (.slice A n c)
    rw [World.size_alloc, World.size_alloc, World.size_alloc] at this
    exact this
  · exact (((((Below.refl _ w).alloc (Nat.le_refl _) _).alloc (by simp) _).alloc (by simp; omega) _).alloc (by simp; omega) _).trans (below_drewN _ _ 1)
  · simp
/-- what a round that goes on must keep: the four variables, and the pages -/
structure KeepsT (s : Nat) (A : Option Addr) (n : Nat) (W W' : World) : Prop where
  size : W.heap.size ≤ W'.heap.size
  vars : ∀ k, s ≤ k → k < s + 4 → W'.heap[k]? = W.heap[k]?
  pages : 0 < n → ∀ b off, A = some ⟨b, off, none⟩ → W'.heap[b]? = W.heap[b]?
theorem KeepsT.refl (s : Nat) (A : Option Addr) (n : Nat) (W : World) : KeepsT s A n W W := ⟨Nat.le_refl _, fun _ _ _ => rfl, fun _ _ _ _ => rfl⟩
theorem KeepsT.trans {s : Nat} {A : Option Addr} {n : Nat} {X Y Z : World} (h : KeepsT s A n X Y) (k : KeepsT s A n Y Z) : KeepsT s A n X Z :=
  ⟨Nat.le_trans h.size k.size, fun i h1 h2 => (k.vars i h1 h2).trans (h.vars i h1 h2), fun h0 b off e => (k.pages h0 b off e).trans (h.pages h0 b off e)⟩
theorem KeepsT.drewN (s : Nat) (A : Option Addr) (n : Nat) (W : World) (m : Nat) : KeepsT s A n W (W.drewN m) := ⟨Nat.le_refl _, fun _ _ _ => rfl, fun _ _ _ _ => rfl⟩
theorem KeepsT.putObj {s B : Nat} {A : Option Addr} {n : Nat} (hB : s + 4 ≤ B) (hA : 0 < n → ∀ b off, A = some ⟨b, off, none⟩ → b < B) (W : World) (l : Nat) (o o' : Obj) (hl : B ≤ l) (_ : W.heap[l]? = some o) (_ : o.isCells = false) (_ : o.isWalk = false) : KeepsT s A n W (W.putObj l o') :=
  ⟨by simp, fun k _ h2 => World.putObj_heap_other (by omega), fun h0 b off e => World.putObj_heap_other (by have := hA h0 b off e; omega)⟩
theorem Those.keep {W W' : World} {s : Nat} {A : Option Addr} {n : Nat} {on1 : Bool} {a b : Int} {v : Value} (h : Those W s on1 a b v) (k : KeepsT s A n W W') : Those W' s on1 a b v where
  on1 := (k.vars s (Nat.le_refl _) (by omega)).trans h.on1
  lo := (k.vars (s + 1) (by omega) (by omega)).trans h.lo
  hi := (k.vars (s + 2) (by omega) (by omega)).trans h.hi
  l := (k.vars (s + 3) (by omega) (by omega)).trans h.l
theorem Row.keepT {W W' : World} {s : Nat} {A : Option Addr} {n : Nat} {bs : List UInt8} (h : Row W A n bs) (k : KeepsT s A n W W') : Row W' A n bs :=
  h.keep k.size fun h0 b off e _ => k.pages h0 b off e
theorem AbidesFrom.drewN {β : Type} {B : Nat} {J : β → World → Prop} (h : AbidesFrom B J) {x : β} {W : World} (hj : J x W) (m : Nat) : J x (W.drewN m) :=
  h x W (W.drewN m) none hj ⟨rfl, rfl, rfl, Nat.le_refl _, fun _ _ _ => rfl⟩ (fun r e => by cases e)
end Go.Proofs.Ytjjejdjhlnlhiaa
