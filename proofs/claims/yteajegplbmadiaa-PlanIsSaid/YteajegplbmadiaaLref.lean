/-
  The contracts of the document's own New and Super.
-/
import Derived.Test.YteajegplbmadiaaLsup
namespace Go.Proofs.Yteajegplbmadiaa
open Go.RowKit

def rplanL (p i d : Int) : List Value := [.int .i64 p, .int .i64 i, .int .i64 d]
def rplanV (p i d : Int) : Value := .agg #[.int .i64 p, .int .i64 i, .int .i64 d]
theorem rplanL_one (p i d : Int) : ∀ v ∈ rplanL p i d, v.oneCell' = true := by
  intro v hv
  simp only [rplanL, List.mem_cons, List.not_mem_nil, or_false] at hv
  rcases hv with rfl | rfl | rfl <;> rfl

set_option maxRecDepth 100000 in
set_option maxHeartbeats 1000000 in
theorem refNew_far (p i : Int) (w : World) (h : i < 1 ∨ 128 < i ∨ 512 < p) :
    Calls Try.prog 8 #[.int .i64 p, .int .i64 i] w fun e w' => e = .returned (.tuple #[rplanV 0 0 0, .bool false]) ∧ Below w.heap.size w w' := by
  rcases (by omega : i < 1 ∨ (¬ i < 1 ∧ 128 < i) ∨ (¬ i < 1 ∧ ¬ 128 < i ∧ 512 < p)) with c | ⟨c1, c2⟩ | ⟨c1, c2, c3⟩
  all_goals
    clear h
    go_enter Try.func8, Try.ntmps8
    go_wp2
    exact bodyPost_ret (results_row2 rplanT _ 4 5 rfl _ (rowAt_new w (rplanL 0 0 0) _) rfl rfl rfl) rfl ⟨rfl, (Below.refl _ _).alloc (Nat.le_refl _) _⟩
set_option maxRecDepth 100000 in
set_option maxHeartbeats 1000000 in
theorem refNew_near (p i : Int) (w : World) (h1 : 1 ≤ i) (h2 : i ≤ 128) (h3 : p ≤ 512) :
    Calls Try.prog 8 #[.int .i64 p, .int .i64 i] w fun e w' => e = .returned (.tuple #[if Pl.rightB p i = true then rplanV p i (Pl.dataN i) else rplanV 0 0 0, .bool (Pl.rightB p i)]) ∧ Below w.heap.size w w' := by
  have HD : Hid (∀ k : Nat, i ≤ 2 * k → 2 * k ≤ i + 1 → (43 : Int) + k = Pl.dataN i) := Lib.hid (fun k a b => by unfold Pl.dataN; omega)
  have hd := Pl.data_bd h1 h2
  go_enter Try.func8, Try.ntmps8
  go_wp2_with fail
  go_loop [6, 7] (fun x n => ∃ k : Nat, x = .int .i64 (43 + (k : Int)) ∧ n = .int .i64 (2 * (k : Int)) ∧ 2 * (k : Int) ≤ i + 1) (fun _ n => 200 - (intOf n).toNat)
  case atStart => exact ⟨0, rfl, rfl, by omega⟩
  case round =>
    obtain ⟨k, rfl, rfl, hk⟩ := hrel
    by_cases hlt : 2 * (k : Int) < i
    · go_wp2
      go_round
      case rel => exact ⟨k + 1, by go_num, by go_num, by omega⟩
      case measure => simp [intOf]; omega
    · have hx := HD.out k (by omega) hk
      rw [hx]
      clear hx
      cases hr : Pl.rightB p i with
      | true =>
        have hr' := (Pl.right_yes hr).2.2.2
        go_wp2
        exact bodyPost_ret (results_row2 rplanT _ 4 5 rfl _ (rowAt_new w (rplanL p i (Pl.dataN i)) _) rfl rfl rfl) rfl ⟨rfl, (Below.refl _ _).alloc (Nat.le_refl _) _⟩
      | false =>
        have hr' : p ≤ Pl.dataN i := by have := Pl.right_no hr; omega
        go_wp2
        exact bodyPost_ret (results_row2 rplanT _ 4 5 rfl _ (rowAt_new w (rplanL 0 0 0) _) rfl rfl rfl) rfl ⟨rfl, (Below.refl _ _).alloc (Nat.le_refl _) _⟩
theorem refNew_any (p i : Int) (w : World) :
    Calls Try.prog 8 #[.int .i64 p, .int .i64 i] w fun e w' => e = .returned (.tuple #[if Pl.rightB p i = true then rplanV p i (Pl.dataN i) else rplanV 0 0 0, .bool (Pl.rightB p i)]) ∧ Below w.heap.size w w' := by
  by_cases h : 1 ≤ i ∧ i ≤ 128 ∧ p ≤ 512
  · exact refNew_near p i w h.1 h.2.1 h.2.2
  · have := refNew_far p i w (by omega)
    rw [Pl.right_not (p := p) (i := i) (by omega)]
    exact this
theorem refNew_yes (p i : Int) (w : World) (h : Pl.rightB p i = true) :
    Calls Try.prog 8 #[.int .i64 p, .int .i64 i] w fun e w' => e = .returned (.tuple #[rplanV p i (Pl.dataN i), .bool true]) ∧ Below w.heap.size w w' := by
  have := refNew_any p i w
  rw [h] at this
  exact this
theorem refNew_no (p i : Int) (w : World) (h : Pl.rightB p i = false) :
    Calls Try.prog 8 #[.int .i64 p, .int .i64 i] w fun e w' => e = .returned (.tuple #[rplanV 0 0 0, .bool false]) ∧ Below w.heap.size w w' := by
  have := refNew_any p i w
  rw [h] at this
  exact this

/-! ### Super -/
theorem rsuper_box (w : World) (p i d : Int) {w' : World} (hb : Below (w.heap.size + 2) ((w.alloc (.cells #[.int .i64 p, .int .i64 i, .int .i64 d] 29)).alloc (.cells zeroCells 33)) w') :
    RowAt w' w.heap.size (rplanL p i d) ∧ PageAt w' (w.heap.size + 1) zeros ∧ Below w.heap.size w w' ∧ w.heap.size + 1 < w'.heap.size := by
  have h0 := (rowAt_new w (rplanL p i d) 29).alloc (.cells zeroCells 33)
  have h1 := pageAt_zeros (w.alloc (.cells (rplanL p i d).toArray 29)) 33
  rw [World.size_alloc] at h1
  have hs := hb.size
  simp at hs
  exact ⟨h0.below hb (by omega), h1.below hb (by omega), (((Below.refl _ _).alloc (Nat.le_refl _) _).alloc (by simp) _).trans (hb.mono (by omega)), by omega⟩
set_option maxRecDepth 100000 in
set_option maxHeartbeats 1000000 in
theorem refSuper_any (p i d : Int) (w : World) :
    Calls Try.prog 19 #[rplanV p i d] w fun e w' => e = .returned (pageV (Pl.superP p i)) ∧ Below w.heap.size w w' := by
  have HZ := Lib.hid (fun (w' : World) hb => rsuper_box w p i d (w' := w') hb)
  rw [zeroCells_def] at HZ
  have L0 := Lib.hid Pl.mark_length
  have L1 := Lib.hid (Pl.mid_length p)
  have L2 := Lib.hid (Pl.super_length p i)
  have C0 := Lib.hid (fun w => refMark_any w)
  have C1 := Lib.hid (fun w => refSet_any (Pg.setTextN Pl.zero64 0 Pl.markB) 4 2 p w Pl.mark_length)
  have C2 := Lib.hid (fun w => refSet_any (Pg.setN (Pg.setTextN Pl.zero64 0 Pl.markB) 4 2 p) 6 2 i w (Pl.mid_length p))
  change Hid (∀ w, Calls Try.prog _ _ w fun e w' => e = .returned (pageV (Pl.superP p i)) ∧ _) at C2
  generalize Pl.superP p i = q2 at L2 C2 ⊢
  generalize Pg.setN (Pg.setTextN Pl.zero64 0 Pl.markB) 4 2 p = q1 at L1 C1 C2
  generalize Pg.setTextN Pl.zero64 0 Pl.markB = q0 at L0 C0 C1
  unfold rplanV
  go_enter Try.func19, Try.ntmps19
  go_wp2_with fail
  rw [← zeroCells_def]
  refine (C0.out _).mono ?_
  rintro e w4 ⟨rfl, hb4⟩
  rw [zeroCells_def] at hb4
  have H4 := Lib.hid (HZ.out w4 (by simpa using hb4))
  clear HZ hb4
  generalize zeroCells = Z
  go_wp2_with (first
    | ((with_reducible refine wpList_store_new rfl (.tmp 3) (.tmp 5) rfl rfl ?_ ?_ L0.out ?_); (exact rfl); (exact rfl); intro W5 hP hb5 hz5; have S5 : Hid (SupS w (.int .i64 p) [.int .i64 i, .int .i64 d] w4.heap.size q0 W5) := Lib.hid ⟨H4.out.1.step hb5, H4.out.2.1.step hb5, hP, H4.out.2.2.2, H4.out.2.2.1.trans (hb5.mono H4.out.2.2.1.size)⟩; clear hP hb5 hz5 H4; generalize w4.heap.size = D at S5 ⊢; have c5 := S5.out.own.cell 0 _ rfl)
    | (with_reducible refine wpList_load_page S5.out.page rfl (.tmp 3) rfl rfl ?_)
    | (go_at_call 28; refine (C1.out _).mono ?_; rintro e w6 ⟨rfl, hb6⟩; have S6 := Lib.hid (S5.out.call hb6); clear S5 hb6 c5 C1)
    | ((with_reducible refine wpList_store_page S6.out.page L1.out rfl (.tmp 3) (.tmp 9) rfl rfl rfl ?_); have S7 := Lib.hid (S6.out.put _ L1.out); clear S6; generalize w6.setCells D 0 (byteVals q1) = w7 at S7 ⊢; have c7 := S7.out.own.cell 1 _ rfl)
    | (with_reducible refine wpList_load_page S7.out.page rfl (.tmp 3) rfl rfl ?_)
    | (go_at_call 28; refine (C2.out _).mono ?_; rintro e w8 ⟨rfl, hb8⟩; have S8 := Lib.hid (S7.out.call hb8); clear S7 hb8 c7)
    | (with_reducible refine wpList_store_page S8.out.res L2.out rfl (.tmp 2) (.tmp 13) rfl rfl rfl ?_))
  have hq := S8.out.back q2 L2.out
  refine bodyPost_ret (results_page _ 2 rfl _ hq.1 rfl) rfl ⟨rfl, hq.2⟩
end Go.Proofs.Yteajegplbmadiaa
