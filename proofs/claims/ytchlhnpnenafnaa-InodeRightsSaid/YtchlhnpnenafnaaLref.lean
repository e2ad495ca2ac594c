/-
  The contracts of the document's own New and Super.
-/
import Derived.Test.YtchlhnpnenafnaaLmeth
namespace Go.Proofs.Ytchlhnpnenafnaa
open Go.RowKit

def rplanL (p i d : Int) : List Value := [.int .i64 p, .int .i64 i, .int .i64 d]
def rplanV (p i d : Int) : Value := .agg #[.int .i64 p, .int .i64 i, .int .i64 d]
theorem rplanL_one (p i d : Int) : ∀ v ∈ rplanL p i d, v.oneCell' = true := by
  intro v hv
  simp only [rplanL, List.mem_cons, List.not_mem_nil, or_false] at hv
  rcases hv with rfl | rfl | rfl <;> rfl

set_option maxRecDepth 100000 in
set_option maxHeartbeats 1000000 in
theorem refNew_far (p i : Int) (w : World) (h : i < 1 ∨ 128 < i ∨ 512 < p) :
    Calls Try.prog 11 #[.int .i64 p, .int .i64 i] w fun e w' => e = .returned (.tuple #[rplanV 0 0 0, .bool false]) ∧ Below w.heap.size w w' := by
  rcases (by omega : i < 1 ∨ (¬ i < 1 ∧ 128 < i) ∨ (¬ i < 1 ∧ ¬ 128 < i ∧ 512 < p)) with c | ⟨c1, c2⟩ | ⟨c1, c2, c3⟩
  all_goals
    clear h
    go_enter Try.func11, Try.ntmps11
    go_wp2
    exact bodyPost_ret (results_row2 rplanT _ 4 5 rfl _ (rowAt_new w (rplanL 0 0 0) _) rfl rfl rfl) rfl ⟨rfl, (Below.refl _ _).alloc (Nat.le_refl _) _⟩
set_option maxRecDepth 100000 in
set_option maxHeartbeats 1000000 in
theorem refNew_near (p i : Int) (w : World) (h1 : 1 ≤ i) (h2 : i ≤ 128) (h3 : p ≤ 512) :
    Calls Try.prog 11 #[.int .i64 p, .int .i64 i] w fun e w' => e = .returned (.tuple #[if Pl.rightB p i = true then rplanV p i (Pl.dataN i) else rplanV 0 0 0, .bool (Pl.rightB p i)]) ∧ Below w.heap.size w w' := by
  have HD : Hid (∀ k : Nat, i ≤ 2 * k → 2 * k ≤ i + 1 → (43 : Int) + k = Pl.dataN i) := Lib.hid (fun k a b => by unfold Pl.dataN; omega)
  have hd := Pl.data_bd h1 h2
  go_enter Try.func11, Try.ntmps11
  go_wp2_with fail
  go_loop [6, 7] (fun x n => ∃ k : Nat, x = .int .i64 (43 + (k : Int)) ∧ n = .int .i64 (2 * (k : Int)) ∧ 2 * (k : Int) ≤ i + 1) (fun _ n => 200 - (intOf n).toNat)
  case atStart => exact ⟨0, rfl, rfl, by omega⟩
  case round =>
    obtain ⟨k, rfl, rfl, hk⟩ := hrel
    by_cases hlt : 2 * (k : Int) < i
    · go_wp2
      go_round
      case rel => exact ⟨k + 1, by go_num, by go_num, by omega⟩
      case measure => simp [intOf]; omega
    · have hx := HD.out k (by omega) hk
      rw [hx]
      clear hx
      cases hr : Pl.rightB p i with
      | true =>
        have hr' := (Pl.right_yes hr).2.2.2
        go_wp2
        exact bodyPost_ret (results_row2 rplanT _ 4 5 rfl _ (rowAt_new w (rplanL p i (Pl.dataN i)) _) rfl rfl rfl) rfl ⟨rfl, (Below.refl _ _).alloc (Nat.le_refl _) _⟩
      | false =>
        have hr' : p ≤ Pl.dataN i := by have := Pl.right_no hr; omega
        go_wp2
        exact bodyPost_ret (results_row2 rplanT _ 4 5 rfl _ (rowAt_new w (rplanL 0 0 0) _) rfl rfl rfl) rfl ⟨rfl, (Below.refl _ _).alloc (Nat.le_refl _) _⟩
theorem refNew_any (p i : Int) (w : World) :
    Calls Try.prog 11 #[.int .i64 p, .int .i64 i] w fun e w' => e = .returned (.tuple #[if Pl.rightB p i = true then rplanV p i (Pl.dataN i) else rplanV 0 0 0, .bool (Pl.rightB p i)]) ∧ Below w.heap.size w w' := by
  by_cases h : 1 ≤ i ∧ i ≤ 128 ∧ p ≤ 512
  · exact refNew_near p i w h.1 h.2.1 h.2.2
  · have := refNew_far p i w (by omega)
    rw [Pl.right_not (p := p) (i := i) (by omega)]
    exact this
theorem refNew_yes (p i : Int) (w : World) (h : Pl.rightB p i = true) :
    Calls Try.prog 11 #[.int .i64 p, .int .i64 i] w fun e w' => e = .returned (.tuple #[rplanV p i (Pl.dataN i), .bool true]) ∧ Below w.heap.size w w' := by
  have := refNew_any p i w
  rw [h] at this
  exact this
theorem refNew_no (p i : Int) (w : World) (h : Pl.rightB p i = false) :
    Calls Try.prog 11 #[.int .i64 p, .int .i64 i] w fun e w' => e = .returned (.tuple #[rplanV 0 0 0, .bool false]) ∧ Below w.heap.size w w' := by
  have := refNew_any p i w
  rw [h] at this
  exact this

/-! ### Super -/
theorem rsuper_box (w : World) (p i d : Int) {w' : World} (hb : Below (w.heap.size + 2) ((w.alloc (.cells #[.int .i64 p, .int .i64 i, .int .i64 d] 37)).alloc (.cells zeroCells 23)) w') :
    RowAt w' w.heap.size (rplanL p i d) ∧ PageAt w' (w.heap.size + 1) zeros ∧ Below w.heap.size w w' ∧ w.heap.size + 1 < w'.heap.size := by
  have h0 := (rowAt_new w (rplanL p i d) 37).alloc (.cells zeroCells 23)
  have h1 := pageAt_zeros (w.alloc (.cells (rplanL p i d).toArray 37)) 23
  rw [World.size_alloc] at h1
  have hs := hb.size
  simp at hs
  exact ⟨h0.below hb (by omega), h1.below hb (by omega), (((Below.refl _ _).alloc (Nat.le_refl _) _).alloc (by simp) _).trans (hb.mono (by omega)), by omega⟩
end Go.Proofs.Ytchlhnpnenafnaa
