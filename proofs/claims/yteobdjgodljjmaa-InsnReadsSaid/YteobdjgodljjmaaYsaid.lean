/-
  What the project's own functions have to give, and what follows for the statements.
-/
import Derived.Test.YteobdjgodljjmaaYread
import Derived.Test.YteobdjgodljjmaaYbytes
namespace Go.Proofs.Yteobdjgodljjmaa
open Go.RowKit Go.Maps

def RightC : Prop := ∀ (A : Option Addr) (n c : Nat) (xs : List Y.In) (w : World), InsAt w A n xs → n ≤ maxLen → Calls Try.prog 11 #[.slice A n c] w fun e w' => e = .returned (.bool (Y.all xs)) ∧ Below w.heap.size w w'
def encT (xs : List Y.In) : ByteArray := if Y.all xs then strOf (Y.bytes xs) else ⟨#[]⟩
def encE (xs : List Y.In) : Int := if Y.all xs then 0 else 22
def EncodeC : Prop := ∀ (A : Option Addr) (n c : Nat) (xs : List Y.In) (w : World), InsAt w A n xs → n ≤ maxLen → Calls Try.prog 10 #[.slice A n c] w fun e w' => e = .returned (.tuple #[.string (encT xs), .int .i64 (encE xs)]) ∧ Below w.heap.size w w'
def DecGive (s : ByteArray) (w : World) (e : Ending) (w' : World) : Prop :=
  if Y.reads s.data.toList = true then ∃ A c, e = .returned (.tuple #[.slice A (s.size / 8) c, .int .i64 0]) ∧ InsAt w' A (s.size / 8) (Y.read s.data.toList) ∧ Below w.heap.size w w'
  else ∃ A c, e = .returned (.tuple #[.slice A 0 c, .int .i64 22]) ∧ Below w.heap.size w w'
def DecodeC : Prop := ∀ (s : ByteArray) (w : World), s.size ≤ 9223372036854775807 → Calls Try.prog 12 #[.string s] w (DecGive s w)
def HasImmC : Prop := ∀ (o : Int) (w : World), Calls Try.prog 16 #[.int .i64 o] w fun e w' => e = .returned (.bool (Y.hasImm o)) ∧ Below w.heap.size w w'
def IsJumpC : Prop := ∀ (o : Int) (w : World), Calls Try.prog 18 #[.int .i64 o] w fun e w' => e = .returned (.bool (Y.isJump o)) ∧ Below w.heap.size w w'

/-! ### the example -/
def exI : Y.In := ⟨2, 3, 0, 0, -1⟩
theorem ex_all : Y.all [exI] = true := by decide
theorem ex_bytes : strOf (Y.bytes [exI]) = ⟨#[2, 48, 0, 0, 255, 255, 255, 255]⟩ := by
  have : Y.bytes [exI] = [2, 48, 0, 0, 255, 255, 255, 255] := by decide
  rw [this]; rfl
theorem insAt_one (w : World) (x : Y.In) (t : TypeId) : InsAt (w.alloc (.cells (inL x).toArray t)) (some ⟨w.heap.size, 0, none⟩) 1 [x] := ⟨rfl, ⟨fun _ => ⟨w.heap.size, 0, rfl, by simp, fun i r hi j v hv => by
  match i, hi with
  | 0, hi =>
    simp at hi
    subst hi
    have := (rowAt_new w (inL x) t).range j v hv
    simpa using this⟩⟩⟩
set_option maxRecDepth 100000 in
set_option maxHeartbeats 1000000 in
theorem awake_any (hE : EncodeC) (w : World) : Calls Try.prog 7 #[] w fun e w' => e = .returned (.bool true) ∧ Below w.heap.size w w' := by
  have HE : Hid (Calls Try.prog 10 #[.slice (some ⟨w.heap.size, 0, none⟩) 1 1] (w.alloc (.cells #[.int .i64 2, .int .i64 3, .int .i64 0, .int .i64 0, .int .i64 (-1)] 42)) fun e w' => e = .returned (.tuple #[.string ⟨#[2, 48, 0, 0, 255, 255, 255, 255]⟩, .int .i64 0]) ∧ Below w.heap.size w w') := Lib.hid (by
    have h := hE (some ⟨w.heap.size, 0, none⟩) 1 1 [exI] _ (insAt_one w exI 42) (by unfold maxLen; omega)
    unfold encT encE at h
    rw [ex_all, ex_bytes] at h
    refine h.mono ?_
    rintro e w' ⟨rfl, hb⟩
    exact ⟨rfl, ((Below.refl _ w).alloc (Nat.le_refl _) _).trans (hb.mono (by simp))⟩)
  clear hE
  go_enter Try.func7, Try.ntmps7
  go_wp2_with (go_at_call 10; (with_reducible refine HE.out.mono ?_); rintro e w1 ⟨rfl, hb⟩; have B := Lib.hid hb; clear hb)
  go_ret
  exact ⟨rfl, B.out⟩

/-! ### InsnKinds -/
set_option maxRecDepth 100000 in
set_option maxHeartbeats 1000000 in
theorem kinds_walk (hE : EncodeC) (hH : HasImmC) (hJ : IsJumpC) (o : Int) (w : World) : Calls Try.prog 5 #[.int .i64 o] w fun e w' => e = .returned (.bool true) ∧ Below w.heap.size w w' := by
  have HA := Lib.hid (fun w => awake_any hE w)
  have HH := Lib.hid (fun w => hH o w)
  have HR := Lib.hid (fun w => rhasImm_any o w)
  have HJ := Lib.hid (fun w => hJ o w)
  clear hE hH hJ
  generalize Y.hasImm o = h at HH HR
  obtain ⟨j, hj⟩ : ∃ j, j = Y.isJump o := ⟨_, rfl⟩
  rw [← hj] at HJ
  have HJ2 : Hid (j = decide (32 ≤ o ∧ o ≤ 40)) := Lib.hid hj
  clear hj
  go_enter Try.func5, Try.ntmps5
  go_wp2_with (first
    | (go_at_call 7; (with_reducible refine (HA.out _).mono ?_); rintro e w1 ⟨rfl, hb⟩; have B := Lib.hid hb; clear hb)
    | (go_at_call 16; (with_reducible refine (HH.out _).mono ?_); rintro e w1 ⟨rfl, hb⟩; replace B := Lib.hid (B.out.trans (hb.mono B.out.size)); clear hb)
    | (go_at_call 17; (with_reducible refine (HR.out _).mono ?_); rintro e w1 ⟨rfl, rfl⟩)
    | (go_at_call 18; (with_reducible refine (HJ.out _).mono ?_); rintro e w1 ⟨rfl, hb⟩; replace B := Lib.hid (B.out.trans (hb.mono B.out.size)); clear hb))
  all_goals
    go_ret
    refine ⟨ret_bool ?_, B.out⟩
    rw [HJ2.out]
    simp
    try omega
end Go.Proofs.Yteobdjgodljjmaa
