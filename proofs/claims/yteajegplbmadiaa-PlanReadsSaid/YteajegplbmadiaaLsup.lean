/-
  The contracts of plan.Super, the document's own New and Super.
-/
import Derived.Test.YteajegplbmadiaaLmeth
import Derived.Test.YteajegplbmadiaaPtext
import Derived.Test.YteajegplbmadiaaPreft
namespace Go.Proofs.Yteajegplbmadiaa
open Go.RowKit

theorem zeros_eq : zeros = Pl.zero64 := rfl
def markS : ByteArray := { data := #[78, 82, 84, 88] }
theorem setMark_any (w : World) : Calls Try.prog 22 #[pageV zeros, .int .i64 0, .string markS] w fun e w' => e = .returned (pageV (Pg.setTextN Pl.zero64 0 Pl.markB)) ∧ Below w.heap.size w w' :=
  setText_any zeros 0 markS w zeros_length (by decide)
theorem refMark_any (w : World) : Calls Try.prog 27 #[pageV zeros, .int .i64 0, .string markS] w fun e w' => e = .returned (pageV (Pg.setTextN Pl.zero64 0 Pl.markB)) ∧ Below w.heap.size w w' :=
  refSetText_any zeros 0 markS w zeros_length

/-- what stands before the question: the plan, the page that is handed back -/
theorem super_box (w : World) (p i : Int) {w' : World} (hb : Below (w.heap.size + 2) ((w.alloc (.cells #[.int .i64 p, .int .i64 i] 24)).alloc (.cells zeroCells 33)) w') :
    RowAt w' w.heap.size (planL p i) ∧ PageAt w' (w.heap.size + 1) zeros ∧ Below w.heap.size w w' := by
  have h0 := (rowAt_new w (planL p i) 24).alloc (.cells zeroCells 33)
  have h1 := pageAt_zeros (w.alloc (.cells (planL p i).toArray 24)) 33
  rw [World.size_alloc] at h1
  have hs := hb.size
  simp at hs
  exact ⟨h0.below hb (by omega), h1.below hb (by omega), (((Below.refl _ _).alloc (Nat.le_refl _) _).alloc (by simp) _).trans (hb.mono (by omega))⟩
set_option maxRecDepth 100000 in
set_option maxHeartbeats 1000000 in
theorem super_no (p i : Int) (w : World) (h : Pl.rightB p i = false) :
    Calls Try.prog 9 #[planV p i] w fun e w' => e = .returned (.tuple #[pageV zeros, .int .i64 22]) ∧ Below w.heap.size w w' := by
  have HZ := Lib.hid (fun (w' : World) hb => super_box w p i (w' := w') hb)
  rw [zeroCells_def] at HZ
  have HL := Lib.hid zeros_length
  have hq : pageV zeros = .agg zeroCells := rfl
  rw [zeroCells_def] at hq
  have HQ := Lib.hid hq; clear hq
  unfold planV
  go_enter Try.func9, Try.ntmps9
  go_wp2_with (first
    | (go_at_call 21; refine (right_is p i _ _ h).mono ?_; rintro e w3 ⟨rfl, hb⟩; have HB := Lib.hid (HZ.out w3 (by simpa using hb)); clear hb)
    | ((with_reducible refine wpList_store_page (q := zeros) HB.out.2.1 HL.out rfl (.tmp 2) (.tmp 8) rfl rfl ?_ ?_); (exact HQ.out.symm)))
  exact bodyPost_ret (results_page2 _ 2 3 rfl _ (HB.out.2.1.put _ HL.out) rfl rfl) rfl ⟨rfl, below_setCells _ (by omega) _ _ _ HB.out.2.2⟩
/-- what stands in memory while a super page is made: the plan, the page that is handed back, the page that is being made -/
structure SupS (w0 : World) (v : Value) (vs : List Value) (D : Nat) (q : List UInt8) (W : World) : Prop where
  own : RowAt W w0.heap.size (v :: vs)
  res : PageAt W (w0.heap.size + 1) zeros
  page : PageAt W D q
  gt : w0.heap.size + 1 < D
  below : Below w0.heap.size w0 W
theorem SupS.call {w0 : World} {v : Value} {vs : List Value} {D : Nat} {q : List UInt8} {W W' : World} (k : SupS w0 v vs D q W) (hb : Below W.heap.size W W') : SupS w0 v vs D q W' :=
  ⟨k.own.step hb, k.res.step hb, k.page.step hb, k.gt, k.below.trans (hb.mono k.below.size)⟩
theorem SupS.put {w0 : World} {v : Value} {vs : List Value} {D : Nat} {q : List UInt8} {W : World} (k : SupS w0 v vs D q W) (q' : List UInt8) (hq : q'.length = 64) : SupS w0 v vs D q' (W.setCells D 0 (byteVals q')) :=
  ⟨k.own.put_other _ _ _ (by have := k.gt; omega), k.res.put_other _ _ _ (by have := k.gt; omega), k.page.put q' hq, k.gt, below_setCells _ (by have := k.gt; omega) _ _ _ k.below⟩
theorem SupS.back {w0 : World} {v : Value} {vs : List Value} {D : Nat} {q : List UInt8} {W : World} (k : SupS w0 v vs D q W) (q' : List UInt8) (hq : q'.length = 64) :
    PageAt (W.setCells (w0.heap.size + 1) 0 (byteVals q')) (w0.heap.size + 1) q' ∧ Below w0.heap.size w0 (W.setCells (w0.heap.size + 1) 0 (byteVals q')) :=
  ⟨k.res.put q' hq, below_setCells _ (by omega) _ _ _ k.below⟩

set_option maxRecDepth 100000 in
set_option maxHeartbeats 1000000 in
theorem super_yes (p i : Int) (w : World) (h : Pl.rightB p i = true) :
    Calls Try.prog 9 #[planV p i] w fun e w' => e = .returned (.tuple #[pageV (Pl.superP p i), .int .i64 0]) ∧ Below w.heap.size w w' := by
  have HZ := Lib.hid (fun (w' : World) hb => super_box w p i (w' := w') hb)
  rw [zeroCells_def] at HZ
  have L0 := Lib.hid Pl.mark_length
  have L1 := Lib.hid (Pl.mid_length p)
  have L2 := Lib.hid (Pl.super_length p i)
  have C0 := Lib.hid (fun w => setMark_any w)
  have C1 := Lib.hid (fun w => set_any (Pg.setTextN Pl.zero64 0 Pl.markB) 4 2 p w Pl.mark_length (by omega) (by omega))
  have C2 := Lib.hid (fun w => set_any (Pg.setN (Pg.setTextN Pl.zero64 0 Pl.markB) 4 2 p) 6 2 i w (Pl.mid_length p) (by omega) (by omega))
  change Hid (∀ w, Calls Try.prog _ _ w fun e w' => e = .returned (pageV (Pl.superP p i)) ∧ _) at C2
  generalize Pl.superP p i = q2 at L2 C2 ⊢
  generalize Pg.setN (Pg.setTextN Pl.zero64 0 Pl.markB) 4 2 p = q1 at L1 C1 C2
  generalize Pg.setTextN Pl.zero64 0 Pl.markB = q0 at L0 C0 C1
  unfold planV
  go_enter Try.func9, Try.ntmps9
  go_wp2_with (go_at_call 21; refine (right_is p i _ _ h).mono ?_; rintro e w3 ⟨rfl, hb⟩; have HB := Lib.hid (HZ.out w3 (by simpa using hb)); clear hb)
  rw [← zeroCells_def]
  refine (C0.out _).mono ?_
  rintro e w4 ⟨rfl, hb4⟩
  have H4 : Hid (RowAt w4 w.heap.size (planL p i) ∧ PageAt w4 (w.heap.size + 1) zeros ∧ Below w.heap.size w w4 ∧ w.heap.size + 1 < w4.heap.size) := Lib.hid ⟨HB.out.1.step hb4, HB.out.2.1.step hb4, HB.out.2.2.trans (hb4.mono HB.out.2.2.size), (HB.out.2.1.step hb4).lt⟩
  clear HB HZ hb4
  generalize zeroCells = Z
  go_wp2_with (first
    | ((with_reducible refine wpList_store_new rfl (.tmp 4) (.tmp 10) rfl rfl ?_ ?_ L0.out ?_); (exact rfl); (exact rfl); intro W5 hP hb5 hz5; have S5 : Hid (SupS w (.int .i64 p) [.int .i64 i] w4.heap.size q0 W5) := Lib.hid ⟨H4.out.1.step hb5, H4.out.2.1.step hb5, hP, H4.out.2.2.2, H4.out.2.2.1.trans (hb5.mono H4.out.2.2.1.size)⟩; clear hP hb5 hz5 H4; generalize w4.heap.size = D at S5 ⊢; have c5 := S5.out.own.cell 0 _ rfl)
    | (with_reducible refine wpList_load_page S5.out.page rfl (.tmp 4) rfl rfl ?_)
    | (go_at_call 23; refine (C1.out _).mono ?_; rintro e w6 ⟨rfl, hb6⟩; have S6 := Lib.hid (S5.out.call hb6); clear S5 hb6 c5 C1)
    | ((with_reducible refine wpList_store_page S6.out.page L1.out rfl (.tmp 4) (.tmp 14) rfl rfl rfl ?_); have S7 := Lib.hid (S6.out.put _ L1.out); clear S6; generalize w6.setCells D 0 (byteVals q1) = w7 at S7 ⊢; have c7 := S7.out.own.cell 1 _ rfl)
    | (with_reducible refine wpList_load_page S7.out.page rfl (.tmp 4) rfl rfl ?_)
    | (go_at_call 23; refine (C2.out _).mono ?_; rintro e w8 ⟨rfl, hb8⟩; have S8 := Lib.hid (S7.out.call hb8); clear S7 hb8 c7)
    | (with_reducible refine wpList_store_page S8.out.res L2.out rfl (.tmp 2) (.tmp 18) rfl rfl rfl ?_))
  have hq := S8.out.back q2 L2.out
  refine bodyPost_ret (results_page2 _ 2 3 rfl _ hq.1 rfl rfl) rfl ⟨rfl, hq.2⟩
end Go.Proofs.Yteajegplbmadiaa
