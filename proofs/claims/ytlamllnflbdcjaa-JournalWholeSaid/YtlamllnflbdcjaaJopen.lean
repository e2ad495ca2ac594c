/-
  The contract of journal's Open, over that of begin.
-/
import Derived.Test.YtlamllnflbdcjaaJlive
namespace Go.Proofs.Ytlamllnflbdcjaa
open Go.RowKit
open Dk (zeros zeros_length)
open Hd (Head rightB pageH)
open Jn (Chg quietH liveH)

theorem Only.drop {L L' : List Nat} {w w1 w2 : World} (h1 : Only L w w1) (h2 : Only L' w1 w2) (hL : ∀ x ∈ L', x ∈ L ∨ w.heap.size ≤ x) : Only L w w2 :=
  ⟨h2.os.trans h1.os, h2.tape.trans h1.tape, h2.output.trans h1.output, Nat.le_trans h1.size h2.size, fun k hk hn => (h2.block k (Nat.lt_of_lt_of_le hk h1.size) (fun e => by
    rcases hL k e with g | g
    · exact hn g
    · omega)).trans (h1.block k hk hn)⟩
theorem jAt_new (w : World) (d a z : Nat) (t : TypeId) : JAt (w.alloc (.cells (jVals d a z 0 false).toArray t)) w.heap.size d a z 0 false := ⟨rowAt_new w _ t⟩
/-- what an Open leaves -/
def Opened (w : World) (d l m a z : Nat) (R : Dk.St × Int) (P : Int → Int → Prop) (e : Ending) (w' : World) : Prop :=
  DiskAt w' d l m R.1 ∧ Only [d, l, m] w w' ∧
  ((R.2 = 0 ∧ ∃ j cnt q, e = .returned (.tuple #[.pointer (some ⟨j, 0, none⟩), .int .i64 cnt, .int .i64 0]) ∧ JAt w' j d a z q false ∧ P cnt q ∧ w.heap.size ≤ j) ∨
   (R.2 ≠ 0 ∧ e = .returned (.tuple #[.pointer none, .int .i64 0, .int .i64 R.2])))
set_option maxRecDepth 100000 in
set_option maxHeartbeats 4000000 in
theorem open_with {w : World} {d l m a z r : Nat} {s : Dk.St} (h : DiskAt w d l m s) (ha : a ≤ 900) (hz : z ≤ 900) (hroom : RoomIs z r) (hr : 1 ≤ r) (hup : s.down = false) (hreg : a + z ≤ s.last.length) (R : Dk.St × Int) (P : Int → Int → Prop)
    (hb : ∀ W j, JAt W j d a z 0 false → DiskAt W d l m s → j ∉ [d, l, m] → Calls Try.prog 17 #[.pointer (some ⟨j, 0, none⟩)] W fun e w' => ∃ (cnt q : Int), e = .returned (.tuple #[.int .i64 cnt, .int .i64 R.2]) ∧ DiskAt w' d l m R.1 ∧ JAt w' j d a z q false ∧ P cnt q ∧ Only [d, l, m, j] W w') :
    Calls Try.prog 7 #[.pointer (some ⟨d, 0, none⟩), .int .i64 (a : Int), .int .i64 (z : Int)] w (Opened w d l m a z R P) := by
  have HDN := Lib.hid (down_any h)
  rw [hup] at HDN
  have HRM : Hid (∀ w, Calls Try.prog 13 #[.int .i64 (z : Int)] w fun e w' => e = .returned (.int .i64 (r : Int)) ∧ w = w') := Lib.hid hroom
  have HPG := Lib.hid (pages_any h)
  have HBG := Lib.hid (hb _ _ (jAt_new w d a z 63) (h.alloc _) (by have := h.dlt; have := h.llt; have := h.mlt; simp; omega))
  have HLT : Hid (d < w.heap.size ∧ l < w.heap.size ∧ m < w.heap.size) := Lib.hid ⟨h.dlt, h.llt, h.mlt⟩
  have hsm := h.ok.small
  clear h hb hroom hup
  generalize s.last.length = n at HPG hreg hsm
  have hr1 : ((r : Int) == 0) = false := by rw [beq_eq_false_iff_ne]; omega
  have hr2 : ¬ ((a : Int) < 0) := by omega
  have hr3 : ¬ ((n : Int) - (z : Int) < (a : Int)) := by omega
  have HO1 : Hid (Only [d, l, m] w (w.alloc (.cells (jVals d a z 0 false).toArray 63))) := Lib.hid ((Only.refl _ _).alloc _)
  unfold jVals at HBG HO1
  go_enter Try.func7, Try.ntmps7
  go_wp2_with fail
  refine HDN.out.mono ?_
  rintro e w' ⟨rfl, rfl⟩
  go_wp2_with fail
  refine (HRM.out _).mono ?_
  rintro e w' ⟨rfl, rfl⟩
  go_wp2_with fail
  refine HPG.out.mono ?_
  rintro e w' ⟨rfl, rfl⟩
  clear HDN HRM HPG
  go_wp2_with fail
  refine HBG.out.mono ?_
  rintro e w2 ⟨cnt, q, rfl, hd2, hj2, hP2, ho2⟩
  have HD2 := Lib.hid hd2
  have HJ2 := Lib.hid hj2
  have HP2 := Lib.hid hP2
  have HO2 : Hid (Only [d, l, m] w w2) := Lib.hid (HO1.out.drop ho2 (by intro x hx; simp at hx ⊢; omega))
  clear hd2 hj2 hP2 ho2 HBG HO1 hr1 hr2 hr3
  by_cases hE : R.2 = 0
  · have HE := Lib.hid hE
    rw [hE]
    clear hE
    go_wp2_with fail
    go_ret3
    exact ⟨HD2.out, HO2.out, Or.inl ⟨HE.out, _, _, _, rfl, HJ2.out, HP2.out, Nat.le_refl _⟩⟩
  · have HE := Lib.hid hE
    have hne2 : (R.2 == 0) = false := by simpa using hE
    have hne3 : (R.2 != 0) = true := by simpa using hE
    clear hE
    go_wp2_with fail
    go_ret3
    exact ⟨HD2.out, HO2.out, Or.inr ⟨HE.out, rfl⟩⟩
end Go.Proofs.Ytlamllnflbdcjaa
