/-
  The contract of the document's own Get.
-/
import Derived.Test.YtchlhnpnenafnaaIgmem
namespace Go.Proofs.Ytchlhnpnenafnaa
open Go.RowKit
open Ii (Ino)

set_option maxRecDepth 100000 in
set_option maxHeartbeats 4000000 in
theorem irget_0 (p : List UInt8) (w : World) (hp : p.length = 64) :
    Calls Try.prog 10 #[pageV p, .int .i64 0] w fun e w' => e = .returned (inoV (Ii.getI p 0)) ∧ Below w.heap.size w w' := by
  have HS := Lib.hid (bxS_box w p 31 hp)
  have Hgk := Lib.hid (fun (w : World) => refGet_any p 0 1 w hp)
  have Hgp := Lib.hid (fun (w : World) => refGet_any p 2 2 w hp)
  have Hgu := Lib.hid (fun (w : World) => refGet_any p 4 2 w hp)
  have Hgl := Lib.hid (fun (w : World) => refGet_any p 6 2 w hp)
  have Hgs := Lib.hid (fun (w : World) => refGet_any p 8 4 w hp)
  have Hga := Lib.hid (fun (w : World) => refGet_any p 12 2 w hp)
  have Hgb := Lib.hid (fun (w : World) => refGet_any p 14 2 w hp)
  have Hgc := Lib.hid (fun (w : World) => refGet_any p 16 2 w hp)
  have Hgd := Lib.hid (fun (w : World) => refGet_any p 18 2 w hp)
  have Hge := Lib.hid (fun (w : World) => refGet_any p 20 2 w hp)
  have Hgf := Lib.hid (fun (w : World) => refGet_any p 22 2 w hp)
  have HE : Hid (Ii.getI p 0 = ⟨Pg.getN p 0 1, Pg.getN p 2 2, Pg.getN p 4 2, Pg.getN p 6 2, Pg.getN p 8 4, Pg.getN p 12 2, Pg.getN p 14 2, Pg.getN p 16 2, Pg.getN p 18 2, Pg.getN p 20 2, Pg.getN p 22 2⟩) := Lib.hid rfl
  rw [HE.out]
  clear HE hp
  generalize Pg.getN p 0 1 = gk at Hgk ⊢
  generalize Pg.getN p 2 2 = gp at Hgp ⊢
  generalize Pg.getN p 4 2 = gu at Hgu ⊢
  generalize Pg.getN p 6 2 = gl at Hgl ⊢
  generalize Pg.getN p 8 4 = gs at Hgs ⊢
  generalize Pg.getN p 12 2 = ga at Hga ⊢
  generalize Pg.getN p 14 2 = gb at Hgb ⊢
  generalize Pg.getN p 16 2 = gc at Hgc ⊢
  generalize Pg.getN p 18 2 = gd at Hgd ⊢
  generalize Pg.getN p 20 2 = ge at Hge ⊢
  generalize Pg.getN p 22 2 = gf at Hgf ⊢
  obtain ⟨y0, HY⟩ : ∃ y0 : Ino, Hid (y0 = ⟨gk, gp, gu, gl, gs, 0, 0, 0, 0, ge, gf⟩) := ⟨_, Lib.hid rfl⟩
  unfold pageV
  go_enter Try.func10, Try.ntmps10
  go_wp2_with fail
  generalize hw : (w.alloc _).alloc _ = w1
  have S : Hid (BxS w p w1) := Lib.hid (by rw [← hw]; exact HS.out)
  clear hw HS
  refine wp_region_lin (GtS w p y0) (fun i => i == 28 || i == 29) (fun i => [pageV p, .int .i64 0, .int .i64 gk, pageV p, .int .i64 0, .int .i64 2, .int .i64 gp, pageV p, .int .i64 0, .int .i64 4, .int .i64 gu, pageV p, .int .i64 0, .int .i64 6, .int .i64 gl, pageV p, .int .i64 0, .int .i64 8, .int .i64 gs, pageV p, .int .i64 0, .int .i64 20, .int .i64 ge, pageV p, .int .i64 0, .int .i64 22, .int .i64 gf, inoV y0].getD i undef) (none) (by kernel_rfl) (by kernel_rfl) (⟨BxS.drew S.out, trivial⟩) ?_
  refine lin_step (i := 0) (d := some 10) (v := pageV p) rfl rfl (by kernel_rfl) (by kernel_rfl) rfl rfl (ord_page (by kernel_rfl) (.tmp 2) rfl rfl (fun _ _ hS => hS.1.page)) ?_
  (try simp only [Act.put, List.setIfInBounds_toArray, List.set_cons_zero, List.set_cons_succ])
  refine lin_step (i := 1) (d := some 11) (v := .int .i64 0) rfl rfl (by kernel_rfl) (by kernel_rfl) rfl rfl (ord_value (by kernel_rfl) ?_) ?_
  · (intro _ _ _; go_simp) <;> kernel_rfl
  (try simp only [Act.put, List.setIfInBounds_toArray, List.set_cons_zero, List.set_cons_succ])
  refine lin_step (i := 2) (d := some 12) (v := .int .i64 gk) rfl rfl (by kernel_rfl) (by kernel_rfl) rfl rfl (ord_call (f := 19) (args := #[pageV p, .int .i64 0, .int .i64 1]) (by kernel_rfl) ?_ (fun _ W hS => (Hgk.out W).mono fun _ _ h => ⟨h.1, GtS.call hS h.2⟩)) ?_
  · intro _; go_simp
  (try simp only [Act.put, List.setIfInBounds_toArray, List.set_cons_zero, List.set_cons_succ])
  refine lin_step (i := 3) (d := some 13) (v := pageV p) rfl rfl (by kernel_rfl) (by kernel_rfl) rfl rfl (ord_page (by kernel_rfl) (.tmp 2) rfl rfl (fun _ _ hS => hS.1.page)) ?_
  (try simp only [Act.put, List.setIfInBounds_toArray, List.set_cons_zero, List.set_cons_succ])
  refine lin_step (i := 4) (d := some 14) (v := .int .i64 0) rfl rfl (by kernel_rfl) (by kernel_rfl) rfl rfl (ord_value (by kernel_rfl) ?_) ?_
  · (intro _ _ _; go_simp) <;> kernel_rfl
  (try simp only [Act.put, List.setIfInBounds_toArray, List.set_cons_zero, List.set_cons_succ])
  refine lin_step (i := 5) (d := some 15) (v := .int .i64 2) rfl rfl (by kernel_rfl) (by kernel_rfl) rfl rfl (ord_value (by kernel_rfl) ?_) ?_
  · (intro _ _ _; go_simp) <;> kernel_rfl
  (try simp only [Act.put, List.setIfInBounds_toArray, List.set_cons_zero, List.set_cons_succ])
  refine lin_step (i := 6) (d := some 16) (v := .int .i64 gp) rfl rfl (by kernel_rfl) (by kernel_rfl) rfl rfl (ord_call (f := 19) (args := #[pageV p, .int .i64 2, .int .i64 2]) (by kernel_rfl) ?_ (fun _ W hS => (Hgp.out W).mono fun _ _ h => ⟨h.1, GtS.call hS h.2⟩)) ?_
  · intro _; go_simp
  (try simp only [Act.put, List.setIfInBounds_toArray, List.set_cons_zero, List.set_cons_succ])
  refine lin_step (i := 7) (d := some 17) (v := pageV p) rfl rfl (by kernel_rfl) (by kernel_rfl) rfl rfl (ord_page (by kernel_rfl) (.tmp 2) rfl rfl (fun _ _ hS => hS.1.page)) ?_
  (try simp only [Act.put, List.setIfInBounds_toArray, List.set_cons_zero, List.set_cons_succ])
  refine lin_step (i := 8) (d := some 18) (v := .int .i64 0) rfl rfl (by kernel_rfl) (by kernel_rfl) rfl rfl (ord_value (by kernel_rfl) ?_) ?_
  · (intro _ _ _; go_simp) <;> kernel_rfl
  (try simp only [Act.put, List.setIfInBounds_toArray, List.set_cons_zero, List.set_cons_succ])
  refine lin_step (i := 9) (d := some 19) (v := .int .i64 4) rfl rfl (by kernel_rfl) (by kernel_rfl) rfl rfl (ord_value (by kernel_rfl) ?_) ?_
  · (intro _ _ _; go_simp) <;> kernel_rfl
  (try simp only [Act.put, List.setIfInBounds_toArray, List.set_cons_zero, List.set_cons_succ])
  refine lin_step (i := 10) (d := some 20) (v := .int .i64 gu) rfl rfl (by kernel_rfl) (by kernel_rfl) rfl rfl (ord_call (f := 19) (args := #[pageV p, .int .i64 4, .int .i64 2]) (by kernel_rfl) ?_ (fun _ W hS => (Hgu.out W).mono fun _ _ h => ⟨h.1, GtS.call hS h.2⟩)) ?_
  · intro _; go_simp
  (try simp only [Act.put, List.setIfInBounds_toArray, List.set_cons_zero, List.set_cons_succ])
  refine lin_step (i := 11) (d := some 21) (v := pageV p) rfl rfl (by kernel_rfl) (by kernel_rfl) rfl rfl (ord_page (by kernel_rfl) (.tmp 2) rfl rfl (fun _ _ hS => hS.1.page)) ?_
  (try simp only [Act.put, List.setIfInBounds_toArray, List.set_cons_zero, List.set_cons_succ])
  refine lin_step (i := 12) (d := some 22) (v := .int .i64 0) rfl rfl (by kernel_rfl) (by kernel_rfl) rfl rfl (ord_value (by kernel_rfl) ?_) ?_
  · (intro _ _ _; go_simp) <;> kernel_rfl
  (try simp only [Act.put, List.setIfInBounds_toArray, List.set_cons_zero, List.set_cons_succ])
  refine lin_step (i := 13) (d := some 23) (v := .int .i64 6) rfl rfl (by kernel_rfl) (by kernel_rfl) rfl rfl (ord_value (by kernel_rfl) ?_) ?_
  · (intro _ _ _; go_simp) <;> kernel_rfl
  (try simp only [Act.put, List.setIfInBounds_toArray, List.set_cons_zero, List.set_cons_succ])
  refine lin_step (i := 14) (d := some 24) (v := .int .i64 gl) rfl rfl (by kernel_rfl) (by kernel_rfl) rfl rfl (ord_call (f := 19) (args := #[pageV p, .int .i64 6, .int .i64 2]) (by kernel_rfl) ?_ (fun _ W hS => (Hgl.out W).mono fun _ _ h => ⟨h.1, GtS.call hS h.2⟩)) ?_
  · intro _; go_simp
  (try simp only [Act.put, List.setIfInBounds_toArray, List.set_cons_zero, List.set_cons_succ])
  refine lin_step (i := 15) (d := some 25) (v := pageV p) rfl rfl (by kernel_rfl) (by kernel_rfl) rfl rfl (ord_page (by kernel_rfl) (.tmp 2) rfl rfl (fun _ _ hS => hS.1.page)) ?_
  (try simp only [Act.put, List.setIfInBounds_toArray, List.set_cons_zero, List.set_cons_succ])
  refine lin_step (i := 16) (d := some 26) (v := .int .i64 0) rfl rfl (by kernel_rfl) (by kernel_rfl) rfl rfl (ord_value (by kernel_rfl) ?_) ?_
  · (intro _ _ _; go_simp) <;> kernel_rfl
  (try simp only [Act.put, List.setIfInBounds_toArray, List.set_cons_zero, List.set_cons_succ])
  refine lin_step (i := 17) (d := some 27) (v := .int .i64 8) rfl rfl (by kernel_rfl) (by kernel_rfl) rfl rfl (ord_value (by kernel_rfl) ?_) ?_
  · (intro _ _ _; go_simp) <;> kernel_rfl
  (try simp only [Act.put, List.setIfInBounds_toArray, List.set_cons_zero, List.set_cons_succ])
  refine lin_step (i := 18) (d := some 28) (v := .int .i64 gs) rfl rfl (by kernel_rfl) (by kernel_rfl) rfl rfl (ord_call (f := 19) (args := #[pageV p, .int .i64 8, .int .i64 4]) (by kernel_rfl) ?_ (fun _ W hS => (Hgs.out W).mono fun _ _ h => ⟨h.1, GtS.call hS h.2⟩)) ?_
  · intro _; go_simp
  (try simp only [Act.put, List.setIfInBounds_toArray, List.set_cons_zero, List.set_cons_succ])
  refine lin_step (i := 19) (d := some 29) (v := pageV p) rfl rfl (by kernel_rfl) (by kernel_rfl) rfl rfl (ord_page (by kernel_rfl) (.tmp 2) rfl rfl (fun _ _ hS => hS.1.page)) ?_
  (try simp only [Act.put, List.setIfInBounds_toArray, List.set_cons_zero, List.set_cons_succ])
  refine lin_step (i := 20) (d := some 30) (v := .int .i64 0) rfl rfl (by kernel_rfl) (by kernel_rfl) rfl rfl (ord_value (by kernel_rfl) ?_) ?_
  · (intro _ _ _; go_simp) <;> kernel_rfl
  (try simp only [Act.put, List.setIfInBounds_toArray, List.set_cons_zero, List.set_cons_succ])
  refine lin_step (i := 21) (d := some 31) (v := .int .i64 20) rfl rfl (by kernel_rfl) (by kernel_rfl) rfl rfl (ord_value (by kernel_rfl) ?_) ?_
  · (intro _ _ _; go_simp) <;> kernel_rfl
  (try simp only [Act.put, List.setIfInBounds_toArray, List.set_cons_zero, List.set_cons_succ])
  refine lin_step (i := 22) (d := some 32) (v := .int .i64 ge) rfl rfl (by kernel_rfl) (by kernel_rfl) rfl rfl (ord_call (f := 19) (args := #[pageV p, .int .i64 20, .int .i64 2]) (by kernel_rfl) ?_ (fun _ W hS => (Hge.out W).mono fun _ _ h => ⟨h.1, GtS.call hS h.2⟩)) ?_
  · intro _; go_simp
  (try simp only [Act.put, List.setIfInBounds_toArray, List.set_cons_zero, List.set_cons_succ])
  refine lin_step (i := 23) (d := some 33) (v := pageV p) rfl rfl (by kernel_rfl) (by kernel_rfl) rfl rfl (ord_page (by kernel_rfl) (.tmp 2) rfl rfl (fun _ _ hS => hS.1.page)) ?_
  (try simp only [Act.put, List.setIfInBounds_toArray, List.set_cons_zero, List.set_cons_succ])
  refine lin_step (i := 24) (d := some 34) (v := .int .i64 0) rfl rfl (by kernel_rfl) (by kernel_rfl) rfl rfl (ord_value (by kernel_rfl) ?_) ?_
  · (intro _ _ _; go_simp) <;> kernel_rfl
  (try simp only [Act.put, List.setIfInBounds_toArray, List.set_cons_zero, List.set_cons_succ])
  refine lin_step (i := 25) (d := some 35) (v := .int .i64 22) rfl rfl (by kernel_rfl) (by kernel_rfl) rfl rfl (ord_value (by kernel_rfl) ?_) ?_
  · (intro _ _ _; go_simp) <;> kernel_rfl
  (try simp only [Act.put, List.setIfInBounds_toArray, List.set_cons_zero, List.set_cons_succ])
  refine lin_step (i := 26) (d := some 36) (v := .int .i64 gf) rfl rfl (by kernel_rfl) (by kernel_rfl) rfl rfl (ord_call (f := 19) (args := #[pageV p, .int .i64 22, .int .i64 2]) (by kernel_rfl) ?_ (fun _ W hS => (Hgf.out W).mono fun _ _ h => ⟨h.1, GtS.call hS h.2⟩)) ?_
  · intro _; go_simp
  (try simp only [Act.put, List.setIfInBounds_toArray, List.set_cons_zero, List.set_cons_succ])
  refine lin_step (i := 27) (d := some 37) (v := inoV y0) rfl rfl (by kernel_rfl) (by kernel_rfl) rfl rfl (ord_value (by kernel_rfl) ?_) ?_
  · (intro _ _ _; rw [HY.out]; go_simp) <;> rfl
  (try simp only [Act.put, List.setIfInBounds_toArray, List.set_cons_zero, List.set_cons_succ])
  refine lin_turn (i := 28) (d := some 6) (fun u s => ∃ g, w.heap.size + 1 < g ∧ u = .pointer (some ⟨g, 0, none⟩) ∧ s = some (g, false)) rfl rfl (by kernel_rfl) (by kernel_rfl) rfl (by kernel_rfl) (⟨_, _, w.heap.size + 2, by omega, rfl, rfl⟩) (by kernel_rfl) (fun W hS => gives_to (v := .pointer (some ⟨W.heap.size, 0, none⟩)) (w' := W.alloc (.cells (inoL Ii.zero).toArray 31)) (by go_simp; rfl) ⟨some (W.heap.size, false), ⟨W.heap.size, hS.1.out.lt, rfl, rfl⟩, GtS.alloc hS.1⟩) ?_
  rintro _ _ ⟨g, hg, rfl, rfl⟩
  (try simp only [Act.put, List.setIfInBounds_toArray, List.set_cons_zero, List.set_cons_succ])
  refine lin_turn (i := 29) (d := none) (fun u s => u = undef ∧ s = some (g, true)) rfl rfl (by kernel_rfl) (by kernel_rfl) rfl (by kernel_rfl) (⟨_, _, rfl, rfl⟩) (by kernel_rfl) (fun W hS => gives_store_row rinoT hS.2.2 rfl rfl (inoL_one y0) (.tmp 6) (.tmp 37) rfl rfl rfl ⟨some (g, true), ⟨rfl, rfl⟩, GtS.put hS⟩) ?_
  rintro _ _ ⟨rfl, rfl⟩
  (try simp only [Act.put, List.setIfInBounds_toArray, List.set_cons_zero, List.set_cons_succ])
  refine lin_done (by kernel_rfl) ?_
  intro W2 hS
  have S2 : Hid (BxS w p W2) := Lib.hid hS.1
  have R2 : Hid (RowAt W2 g (inoL ⟨gk, gp, gu, gl, gs, 0, 0, 0, 0, ge, gf⟩)) := Lib.hid (by rw [← HY.out]; exact hS.2.2)
  have HG := Lib.hid hg
  clear hS S hg HY
  go_wp2_with fail
  go_loopw [7] (fun i wr => ∃ k : Nat, k ≤ 4 ∧ i = .int .i64 (k : Int) ∧ BxS w p wr ∧ RowAt wr g (inoL ⟨gk, gp, gu, gl, gs, if k < 1 then 0 else ga, if k < 2 then 0 else gb, if k < 3 then 0 else gc, if k < 4 then 0 else gd, ge, gf⟩)) (fun i _ => 4 - (intOf i).toNat)
  case atStart => exact ⟨0, by omega, rfl, S2.out, R2.out⟩
  case round =>
    clear S2 R2
    obtain ⟨k, hk, rfl, hS, hR⟩ := hrel
    have hk : k = 0 ∨ k = 1 ∨ k = 2 ∨ k = 3 ∨ k = 4 := by omega
    rcases hk with rfl | rfl | rfl | rfl | rfl
    · have S2 := Lib.hid hS
      have R2 : Hid (RowAt wr g (inoL ⟨gk, gp, gu, gl, gs, 0, 0, 0, 0, ge, gf⟩)) := Lib.hid hR
      clear hS hR
      go_wp2_with (first
        | (with_reducible refine wpList_load_page S2.out.page rfl (.tmp 2) rfl rfl ?_)
        | (go_at_call 19; refine (Hga.out _).mono ?_; rintro e w' ⟨rfl, hb⟩; replace R2 := Lib.hid (RowAt.step R2.out hb); replace S2 := Lib.hid (S2.out.call hb); clear hb; have hcc := R2.out.cell 5 _ rfl; have hff := R2.out.frozen 5 (show 5 < 11 by decide)))
      have R3 : Hid (RowAt (w'.setCell ⟨g, 5, none⟩ (.int .i64 ga)) g (inoL ⟨gk, gp, gu, gl, gs, ga, 0, 0, 0, ge, gf⟩)) := Lib.hid (RowAt.setOne R2.out 5 (.int .i64 ga) (show 5 < 11 by decide))
      have S3 := Lib.hid (S2.out.setOut g 5 (.int .i64 ga) HG.out)
      clear S2 R2
      go_roundw
      case rel => exact ⟨1, by omega, rfl, S3.out, R3.out⟩
      case measure => simp [intOf]
    · have S2 := Lib.hid hS
      have R2 : Hid (RowAt wr g (inoL ⟨gk, gp, gu, gl, gs, ga, 0, 0, 0, ge, gf⟩)) := Lib.hid hR
      clear hS hR
      go_wp2_with (first
        | (with_reducible refine wpList_load_page S2.out.page rfl (.tmp 2) rfl rfl ?_)
        | (go_at_call 19; refine (Hgb.out _).mono ?_; rintro e w' ⟨rfl, hb⟩; replace R2 := Lib.hid (RowAt.step R2.out hb); replace S2 := Lib.hid (S2.out.call hb); clear hb; have hcc := R2.out.cell 6 _ rfl; have hff := R2.out.frozen 6 (show 6 < 11 by decide)))
      have R3 : Hid (RowAt (w'.setCell ⟨g, 6, none⟩ (.int .i64 gb)) g (inoL ⟨gk, gp, gu, gl, gs, ga, gb, 0, 0, ge, gf⟩)) := Lib.hid (RowAt.setOne R2.out 6 (.int .i64 gb) (show 6 < 11 by decide))
      have S3 := Lib.hid (S2.out.setOut g 6 (.int .i64 gb) HG.out)
      clear S2 R2
      go_roundw
      case rel => exact ⟨2, by omega, rfl, S3.out, R3.out⟩
      case measure => simp [intOf]
    · have S2 := Lib.hid hS
      have R2 : Hid (RowAt wr g (inoL ⟨gk, gp, gu, gl, gs, ga, gb, 0, 0, ge, gf⟩)) := Lib.hid hR
      clear hS hR
      go_wp2_with (first
        | (with_reducible refine wpList_load_page S2.out.page rfl (.tmp 2) rfl rfl ?_)
        | (go_at_call 19; refine (Hgc.out _).mono ?_; rintro e w' ⟨rfl, hb⟩; replace R2 := Lib.hid (RowAt.step R2.out hb); replace S2 := Lib.hid (S2.out.call hb); clear hb; have hcc := R2.out.cell 7 _ rfl; have hff := R2.out.frozen 7 (show 7 < 11 by decide)))
      have R3 : Hid (RowAt (w'.setCell ⟨g, 7, none⟩ (.int .i64 gc)) g (inoL ⟨gk, gp, gu, gl, gs, ga, gb, gc, 0, ge, gf⟩)) := Lib.hid (RowAt.setOne R2.out 7 (.int .i64 gc) (show 7 < 11 by decide))
      have S3 := Lib.hid (S2.out.setOut g 7 (.int .i64 gc) HG.out)
      clear S2 R2
      go_roundw
      case rel => exact ⟨3, by omega, rfl, S3.out, R3.out⟩
      case measure => simp [intOf]
    · have S2 := Lib.hid hS
      have R2 : Hid (RowAt wr g (inoL ⟨gk, gp, gu, gl, gs, ga, gb, gc, 0, ge, gf⟩)) := Lib.hid hR
      clear hS hR
      go_wp2_with (first
        | (with_reducible refine wpList_load_page S2.out.page rfl (.tmp 2) rfl rfl ?_)
        | (go_at_call 19; refine (Hgd.out _).mono ?_; rintro e w' ⟨rfl, hb⟩; replace R2 := Lib.hid (RowAt.step R2.out hb); replace S2 := Lib.hid (S2.out.call hb); clear hb; have hcc := R2.out.cell 8 _ rfl; have hff := R2.out.frozen 8 (show 8 < 11 by decide)))
      have R3 : Hid (RowAt (w'.setCell ⟨g, 8, none⟩ (.int .i64 gd)) g (inoL ⟨gk, gp, gu, gl, gs, ga, gb, gc, gd, ge, gf⟩)) := Lib.hid (RowAt.setOne R2.out 8 (.int .i64 gd) (show 8 < 11 by decide))
      have S3 := Lib.hid (S2.out.setOut g 8 (.int .i64 gd) HG.out)
      clear S2 R2
      go_roundw
      case rel => exact ⟨4, by omega, rfl, S3.out, R3.out⟩
      case measure => simp [intOf]
    · have S2 := Lib.hid hS
      have R2 : Hid (RowAt wr g (inoL ⟨gk, gp, gu, gl, gs, ga, gb, gc, gd, ge, gf⟩)) := Lib.hid hR
      clear hS hR
      go_wp2_with (first
        | (with_reducible refine wpList_load_row rinoT R2.out rfl rfl (.tmp 6) rfl rfl ?_)
        | ((with_reducible refine wpList_store_row rinoT (vs := inoL ⟨gk, gp, gu, gl, gs, ga, gb, gc, gd, ge, gf⟩) S2.out.out rfl rfl (inoL_one _) rfl (.tmp 4) (.tmp 52) rfl rfl ?_ ?_); (exact rfl)))
      exact bodyPost_ret (results_row1 rinoT _ 4 rfl _ (S2.out.back _).1 rfl rfl) rfl ⟨rfl, (S2.out.back _).2⟩
set_option maxRecDepth 100000 in
set_option maxHeartbeats 4000000 in
theorem irget_1 (p : List UInt8) (w : World) (hp : p.length = 64) :
    Calls Try.prog 10 #[pageV p, .int .i64 1] w fun e w' => e = .returned (inoV (Ii.getI p 32)) ∧ Below w.heap.size w w' := by
  have HS := Lib.hid (bxS_box w p 31 hp)
  have Hgk := Lib.hid (fun (w : World) => refGet_any p 32 1 w hp)
  have Hgp := Lib.hid (fun (w : World) => refGet_any p 34 2 w hp)
  have Hgu := Lib.hid (fun (w : World) => refGet_any p 36 2 w hp)
  have Hgl := Lib.hid (fun (w : World) => refGet_any p 38 2 w hp)
  have Hgs := Lib.hid (fun (w : World) => refGet_any p 40 4 w hp)
  have Hga := Lib.hid (fun (w : World) => refGet_any p 44 2 w hp)
  have Hgb := Lib.hid (fun (w : World) => refGet_any p 46 2 w hp)
  have Hgc := Lib.hid (fun (w : World) => refGet_any p 48 2 w hp)
  have Hgd := Lib.hid (fun (w : World) => refGet_any p 50 2 w hp)
  have Hge := Lib.hid (fun (w : World) => refGet_any p 52 2 w hp)
  have Hgf := Lib.hid (fun (w : World) => refGet_any p 54 2 w hp)
  have HE : Hid (Ii.getI p 32 = ⟨Pg.getN p 32 1, Pg.getN p 34 2, Pg.getN p 36 2, Pg.getN p 38 2, Pg.getN p 40 4, Pg.getN p 44 2, Pg.getN p 46 2, Pg.getN p 48 2, Pg.getN p 50 2, Pg.getN p 52 2, Pg.getN p 54 2⟩) := Lib.hid rfl
  rw [HE.out]
  clear HE hp
  generalize Pg.getN p 32 1 = gk at Hgk ⊢
  generalize Pg.getN p 34 2 = gp at Hgp ⊢
  generalize Pg.getN p 36 2 = gu at Hgu ⊢
  generalize Pg.getN p 38 2 = gl at Hgl ⊢
  generalize Pg.getN p 40 4 = gs at Hgs ⊢
  generalize Pg.getN p 44 2 = ga at Hga ⊢
  generalize Pg.getN p 46 2 = gb at Hgb ⊢
  generalize Pg.getN p 48 2 = gc at Hgc ⊢
  generalize Pg.getN p 50 2 = gd at Hgd ⊢
  generalize Pg.getN p 52 2 = ge at Hge ⊢
  generalize Pg.getN p 54 2 = gf at Hgf ⊢
  obtain ⟨y0, HY⟩ : ∃ y0 : Ino, Hid (y0 = ⟨gk, gp, gu, gl, gs, 0, 0, 0, 0, ge, gf⟩) := ⟨_, Lib.hid rfl⟩
  unfold pageV
  go_enter Try.func10, Try.ntmps10
  go_wp2_with fail
  generalize hw : (w.alloc _).alloc _ = w1
  have S : Hid (BxS w p w1) := Lib.hid (by rw [← hw]; exact HS.out)
  clear hw HS
  refine wp_region_lin (GtS w p y0) (fun i => i == 28 || i == 29) (fun i => [pageV p, .int .i64 32, .int .i64 gk, pageV p, .int .i64 32, .int .i64 34, .int .i64 gp, pageV p, .int .i64 32, .int .i64 36, .int .i64 gu, pageV p, .int .i64 32, .int .i64 38, .int .i64 gl, pageV p, .int .i64 32, .int .i64 40, .int .i64 gs, pageV p, .int .i64 32, .int .i64 52, .int .i64 ge, pageV p, .int .i64 32, .int .i64 54, .int .i64 gf, inoV y0].getD i undef) (none) (by kernel_rfl) (by kernel_rfl) (⟨BxS.drew S.out, trivial⟩) ?_
  refine lin_step (i := 0) (d := some 10) (v := pageV p) rfl rfl (by kernel_rfl) (by kernel_rfl) rfl rfl (ord_page (by kernel_rfl) (.tmp 2) rfl rfl (fun _ _ hS => hS.1.page)) ?_
  (try simp only [Act.put, List.setIfInBounds_toArray, List.set_cons_zero, List.set_cons_succ])
  refine lin_step (i := 1) (d := some 11) (v := .int .i64 32) rfl rfl (by kernel_rfl) (by kernel_rfl) rfl rfl (ord_value (by kernel_rfl) ?_) ?_
  · (intro _ _ _; go_simp) <;> kernel_rfl
  (try simp only [Act.put, List.setIfInBounds_toArray, List.set_cons_zero, List.set_cons_succ])
  refine lin_step (i := 2) (d := some 12) (v := .int .i64 gk) rfl rfl (by kernel_rfl) (by kernel_rfl) rfl rfl (ord_call (f := 19) (args := #[pageV p, .int .i64 32, .int .i64 1]) (by kernel_rfl) ?_ (fun _ W hS => (Hgk.out W).mono fun _ _ h => ⟨h.1, GtS.call hS h.2⟩)) ?_
  · intro _; go_simp
  (try simp only [Act.put, List.setIfInBounds_toArray, List.set_cons_zero, List.set_cons_succ])
  refine lin_step (i := 3) (d := some 13) (v := pageV p) rfl rfl (by kernel_rfl) (by kernel_rfl) rfl rfl (ord_page (by kernel_rfl) (.tmp 2) rfl rfl (fun _ _ hS => hS.1.page)) ?_
  (try simp only [Act.put, List.setIfInBounds_toArray, List.set_cons_zero, List.set_cons_succ])
  refine lin_step (i := 4) (d := some 14) (v := .int .i64 32) rfl rfl (by kernel_rfl) (by kernel_rfl) rfl rfl (ord_value (by kernel_rfl) ?_) ?_
  · (intro _ _ _; go_simp) <;> kernel_rfl
  (try simp only [Act.put, List.setIfInBounds_toArray, List.set_cons_zero, List.set_cons_succ])
  refine lin_step (i := 5) (d := some 15) (v := .int .i64 34) rfl rfl (by kernel_rfl) (by kernel_rfl) rfl rfl (ord_value (by kernel_rfl) ?_) ?_
  · (intro _ _ _; go_simp) <;> kernel_rfl
  (try simp only [Act.put, List.setIfInBounds_toArray, List.set_cons_zero, List.set_cons_succ])
  refine lin_step (i := 6) (d := some 16) (v := .int .i64 gp) rfl rfl (by kernel_rfl) (by kernel_rfl) rfl rfl (ord_call (f := 19) (args := #[pageV p, .int .i64 34, .int .i64 2]) (by kernel_rfl) ?_ (fun _ W hS => (Hgp.out W).mono fun _ _ h => ⟨h.1, GtS.call hS h.2⟩)) ?_
  · intro _; go_simp
  (try simp only [Act.put, List.setIfInBounds_toArray, List.set_cons_zero, List.set_cons_succ])
  refine lin_step (i := 7) (d := some 17) (v := pageV p) rfl rfl (by kernel_rfl) (by kernel_rfl) rfl rfl (ord_page (by kernel_rfl) (.tmp 2) rfl rfl (fun _ _ hS => hS.1.page)) ?_
  (try simp only [Act.put, List.setIfInBounds_toArray, List.set_cons_zero, List.set_cons_succ])
  refine lin_step (i := 8) (d := some 18) (v := .int .i64 32) rfl rfl (by kernel_rfl) (by kernel_rfl) rfl rfl (ord_value (by kernel_rfl) ?_) ?_
  · (intro _ _ _; go_simp) <;> kernel_rfl
  (try simp only [Act.put, List.setIfInBounds_toArray, List.set_cons_zero, List.set_cons_succ])
  refine lin_step (i := 9) (d := some 19) (v := .int .i64 36) rfl rfl (by kernel_rfl) (by kernel_rfl) rfl rfl (ord_value (by kernel_rfl) ?_) ?_
  · (intro _ _ _; go_simp) <;> kernel_rfl
  (try simp only [Act.put, List.setIfInBounds_toArray, List.set_cons_zero, List.set_cons_succ])
  refine lin_step (i := 10) (d := some 20) (v := .int .i64 gu) rfl rfl (by kernel_rfl) (by kernel_rfl) rfl rfl (ord_call (f := 19) (args := #[pageV p, .int .i64 36, .int .i64 2]) (by kernel_rfl) ?_ (fun _ W hS => (Hgu.out W).mono fun _ _ h => ⟨h.1, GtS.call hS h.2⟩)) ?_
  · intro _; go_simp
  (try simp only [Act.put, List.setIfInBounds_toArray, List.set_cons_zero, List.set_cons_succ])
  refine lin_step (i := 11) (d := some 21) (v := pageV p) rfl rfl (by kernel_rfl) (by kernel_rfl) rfl rfl (ord_page (by kernel_rfl) (.tmp 2) rfl rfl (fun _ _ hS => hS.1.page)) ?_
  (try simp only [Act.put, List.setIfInBounds_toArray, List.set_cons_zero, List.set_cons_succ])
  refine lin_step (i := 12) (d := some 22) (v := .int .i64 32) rfl rfl (by kernel_rfl) (by kernel_rfl) rfl rfl (ord_value (by kernel_rfl) ?_) ?_
  · (intro _ _ _; go_simp) <;> kernel_rfl
  (try simp only [Act.put, List.setIfInBounds_toArray, List.set_cons_zero, List.set_cons_succ])
  refine lin_step (i := 13) (d := some 23) (v := .int .i64 38) rfl rfl (by kernel_rfl) (by kernel_rfl) rfl rfl (ord_value (by kernel_rfl) ?_) ?_
  · (intro _ _ _; go_simp) <;> kernel_rfl
  (try simp only [Act.put, List.setIfInBounds_toArray, List.set_cons_zero, List.set_cons_succ])
  refine lin_step (i := 14) (d := some 24) (v := .int .i64 gl) rfl rfl (by kernel_rfl) (by kernel_rfl) rfl rfl (ord_call (f := 19) (args := #[pageV p, .int .i64 38, .int .i64 2]) (by kernel_rfl) ?_ (fun _ W hS => (Hgl.out W).mono fun _ _ h => ⟨h.1, GtS.call hS h.2⟩)) ?_
  · intro _; go_simp
  (try simp only [Act.put, List.setIfInBounds_toArray, List.set_cons_zero, List.set_cons_succ])
  refine lin_step (i := 15) (d := some 25) (v := pageV p) rfl rfl (by kernel_rfl) (by kernel_rfl) rfl rfl (ord_page (by kernel_rfl) (.tmp 2) rfl rfl (fun _ _ hS => hS.1.page)) ?_
  (try simp only [Act.put, List.setIfInBounds_toArray, List.set_cons_zero, List.set_cons_succ])
  refine lin_step (i := 16) (d := some 26) (v := .int .i64 32) rfl rfl (by kernel_rfl) (by kernel_rfl) rfl rfl (ord_value (by kernel_rfl) ?_) ?_
  · (intro _ _ _; go_simp) <;> kernel_rfl
  (try simp only [Act.put, List.setIfInBounds_toArray, List.set_cons_zero, List.set_cons_succ])
  refine lin_step (i := 17) (d := some 27) (v := .int .i64 40) rfl rfl (by kernel_rfl) (by kernel_rfl) rfl rfl (ord_value (by kernel_rfl) ?_) ?_
  · (intro _ _ _; go_simp) <;> kernel_rfl
  (try simp only [Act.put, List.setIfInBounds_toArray, List.set_cons_zero, List.set_cons_succ])
  refine lin_step (i := 18) (d := some 28) (v := .int .i64 gs) rfl rfl (by kernel_rfl) (by kernel_rfl) rfl rfl (ord_call (f := 19) (args := #[pageV p, .int .i64 40, .int .i64 4]) (by kernel_rfl) ?_ (fun _ W hS => (Hgs.out W).mono fun _ _ h => ⟨h.1, GtS.call hS h.2⟩)) ?_
  · intro _; go_simp
  (try simp only [Act.put, List.setIfInBounds_toArray, List.set_cons_zero, List.set_cons_succ])
  refine lin_step (i := 19) (d := some 29) (v := pageV p) rfl rfl (by kernel_rfl) (by kernel_rfl) rfl rfl (ord_page (by kernel_rfl) (.tmp 2) rfl rfl (fun _ _ hS => hS.1.page)) ?_
  (try simp only [Act.put, List.setIfInBounds_toArray, List.set_cons_zero, List.set_cons_succ])
  refine lin_step (i := 20) (d := some 30) (v := .int .i64 32) rfl rfl (by kernel_rfl) (by kernel_rfl) rfl rfl (ord_value (by kernel_rfl) ?_) ?_
  · (intro _ _ _; go_simp) <;> kernel_rfl
  (try simp only [Act.put, List.setIfInBounds_toArray, List.set_cons_zero, List.set_cons_succ])
  refine lin_step (i := 21) (d := some 31) (v := .int .i64 52) rfl rfl (by kernel_rfl) (by kernel_rfl) rfl rfl (ord_value (by kernel_rfl) ?_) ?_
  · (intro _ _ _; go_simp) <;> kernel_rfl
  (try simp only [Act.put, List.setIfInBounds_toArray, List.set_cons_zero, List.set_cons_succ])
  refine lin_step (i := 22) (d := some 32) (v := .int .i64 ge) rfl rfl (by kernel_rfl) (by kernel_rfl) rfl rfl (ord_call (f := 19) (args := #[pageV p, .int .i64 52, .int .i64 2]) (by kernel_rfl) ?_ (fun _ W hS => (Hge.out W).mono fun _ _ h => ⟨h.1, GtS.call hS h.2⟩)) ?_
  · intro _; go_simp
  (try simp only [Act.put, List.setIfInBounds_toArray, List.set_cons_zero, List.set_cons_succ])
  refine lin_step (i := 23) (d := some 33) (v := pageV p) rfl rfl (by kernel_rfl) (by kernel_rfl) rfl rfl (ord_page (by kernel_rfl) (.tmp 2) rfl rfl (fun _ _ hS => hS.1.page)) ?_
  (try simp only [Act.put, List.setIfInBounds_toArray, List.set_cons_zero, List.set_cons_succ])
  refine lin_step (i := 24) (d := some 34) (v := .int .i64 32) rfl rfl (by kernel_rfl) (by kernel_rfl) rfl rfl (ord_value (by kernel_rfl) ?_) ?_
  · (intro _ _ _; go_simp) <;> kernel_rfl
  (try simp only [Act.put, List.setIfInBounds_toArray, List.set_cons_zero, List.set_cons_succ])
  refine lin_step (i := 25) (d := some 35) (v := .int .i64 54) rfl rfl (by kernel_rfl) (by kernel_rfl) rfl rfl (ord_value (by kernel_rfl) ?_) ?_
  · (intro _ _ _; go_simp) <;> kernel_rfl
  (try simp only [Act.put, List.setIfInBounds_toArray, List.set_cons_zero, List.set_cons_succ])
  refine lin_step (i := 26) (d := some 36) (v := .int .i64 gf) rfl rfl (by kernel_rfl) (by kernel_rfl) rfl rfl (ord_call (f := 19) (args := #[pageV p, .int .i64 54, .int .i64 2]) (by kernel_rfl) ?_ (fun _ W hS => (Hgf.out W).mono fun _ _ h => ⟨h.1, GtS.call hS h.2⟩)) ?_
  · intro _; go_simp
  (try simp only [Act.put, List.setIfInBounds_toArray, List.set_cons_zero, List.set_cons_succ])
  refine lin_step (i := 27) (d := some 37) (v := inoV y0) rfl rfl (by kernel_rfl) (by kernel_rfl) rfl rfl (ord_value (by kernel_rfl) ?_) ?_
  · (intro _ _ _; rw [HY.out]; go_simp) <;> rfl
  (try simp only [Act.put, List.setIfInBounds_toArray, List.set_cons_zero, List.set_cons_succ])
  refine lin_turn (i := 28) (d := some 6) (fun u s => ∃ g, w.heap.size + 1 < g ∧ u = .pointer (some ⟨g, 0, none⟩) ∧ s = some (g, false)) rfl rfl (by kernel_rfl) (by kernel_rfl) rfl (by kernel_rfl) (⟨_, _, w.heap.size + 2, by omega, rfl, rfl⟩) (by kernel_rfl) (fun W hS => gives_to (v := .pointer (some ⟨W.heap.size, 0, none⟩)) (w' := W.alloc (.cells (inoL Ii.zero).toArray 31)) (by go_simp; rfl) ⟨some (W.heap.size, false), ⟨W.heap.size, hS.1.out.lt, rfl, rfl⟩, GtS.alloc hS.1⟩) ?_
  rintro _ _ ⟨g, hg, rfl, rfl⟩
  (try simp only [Act.put, List.setIfInBounds_toArray, List.set_cons_zero, List.set_cons_succ])
  refine lin_turn (i := 29) (d := none) (fun u s => u = undef ∧ s = some (g, true)) rfl rfl (by kernel_rfl) (by kernel_rfl) rfl (by kernel_rfl) (⟨_, _, rfl, rfl⟩) (by kernel_rfl) (fun W hS => gives_store_row rinoT hS.2.2 rfl rfl (inoL_one y0) (.tmp 6) (.tmp 37) rfl rfl rfl ⟨some (g, true), ⟨rfl, rfl⟩, GtS.put hS⟩) ?_
  rintro _ _ ⟨rfl, rfl⟩
  (try simp only [Act.put, List.setIfInBounds_toArray, List.set_cons_zero, List.set_cons_succ])
  refine lin_done (by kernel_rfl) ?_
  intro W2 hS
  have S2 : Hid (BxS w p W2) := Lib.hid hS.1
  have R2 : Hid (RowAt W2 g (inoL ⟨gk, gp, gu, gl, gs, 0, 0, 0, 0, ge, gf⟩)) := Lib.hid (by rw [← HY.out]; exact hS.2.2)
  have HG := Lib.hid hg
  clear hS S hg HY
  go_wp2_with fail
  go_loopw [7] (fun i wr => ∃ k : Nat, k ≤ 4 ∧ i = .int .i64 (k : Int) ∧ BxS w p wr ∧ RowAt wr g (inoL ⟨gk, gp, gu, gl, gs, if k < 1 then 0 else ga, if k < 2 then 0 else gb, if k < 3 then 0 else gc, if k < 4 then 0 else gd, ge, gf⟩)) (fun i _ => 4 - (intOf i).toNat)
  case atStart => exact ⟨0, by omega, rfl, S2.out, R2.out⟩
  case round =>
    clear S2 R2
    obtain ⟨k, hk, rfl, hS, hR⟩ := hrel
    have hk : k = 0 ∨ k = 1 ∨ k = 2 ∨ k = 3 ∨ k = 4 := by omega
    rcases hk with rfl | rfl | rfl | rfl | rfl
    · have S2 := Lib.hid hS
      have R2 : Hid (RowAt wr g (inoL ⟨gk, gp, gu, gl, gs, 0, 0, 0, 0, ge, gf⟩)) := Lib.hid hR
      clear hS hR
      go_wp2_with (first
        | (with_reducible refine wpList_load_page S2.out.page rfl (.tmp 2) rfl rfl ?_)
        | (go_at_call 19; refine (Hga.out _).mono ?_; rintro e w' ⟨rfl, hb⟩; replace R2 := Lib.hid (RowAt.step R2.out hb); replace S2 := Lib.hid (S2.out.call hb); clear hb; have hcc := R2.out.cell 5 _ rfl; have hff := R2.out.frozen 5 (show 5 < 11 by decide)))
      have R3 : Hid (RowAt (w'.setCell ⟨g, 5, none⟩ (.int .i64 ga)) g (inoL ⟨gk, gp, gu, gl, gs, ga, 0, 0, 0, ge, gf⟩)) := Lib.hid (RowAt.setOne R2.out 5 (.int .i64 ga) (show 5 < 11 by decide))
      have S3 := Lib.hid (S2.out.setOut g 5 (.int .i64 ga) HG.out)
      clear S2 R2
      go_roundw
      case rel => exact ⟨1, by omega, rfl, S3.out, R3.out⟩
      case measure => simp [intOf]
    · have S2 := Lib.hid hS
      have R2 : Hid (RowAt wr g (inoL ⟨gk, gp, gu, gl, gs, ga, 0, 0, 0, ge, gf⟩)) := Lib.hid hR
      clear hS hR
      go_wp2_with (first
        | (with_reducible refine wpList_load_page S2.out.page rfl (.tmp 2) rfl rfl ?_)
        | (go_at_call 19; refine (Hgb.out _).mono ?_; rintro e w' ⟨rfl, hb⟩; replace R2 := Lib.hid (RowAt.step R2.out hb); replace S2 := Lib.hid (S2.out.call hb); clear hb; have hcc := R2.out.cell 6 _ rfl; have hff := R2.out.frozen 6 (show 6 < 11 by decide)))
      have R3 : Hid (RowAt (w'.setCell ⟨g, 6, none⟩ (.int .i64 gb)) g (inoL ⟨gk, gp, gu, gl, gs, ga, gb, 0, 0, ge, gf⟩)) := Lib.hid (RowAt.setOne R2.out 6 (.int .i64 gb) (show 6 < 11 by decide))
      have S3 := Lib.hid (S2.out.setOut g 6 (.int .i64 gb) HG.out)
      clear S2 R2
      go_roundw
      case rel => exact ⟨2, by omega, rfl, S3.out, R3.out⟩
      case measure => simp [intOf]
    · have S2 := Lib.hid hS
      have R2 : Hid (RowAt wr g (inoL ⟨gk, gp, gu, gl, gs, ga, gb, 0, 0, ge, gf⟩)) := Lib.hid hR
      clear hS hR
      go_wp2_with (first
        | (with_reducible refine wpList_load_page S2.out.page rfl (.tmp 2) rfl rfl ?_)
        | (go_at_call 19; refine (Hgc.out _).mono ?_; rintro e w' ⟨rfl, hb⟩; replace R2 := Lib.hid (RowAt.step R2.out hb); replace S2 := Lib.hid (S2.out.call hb); clear hb; have hcc := R2.out.cell 7 _ rfl; have hff := R2.out.frozen 7 (show 7 < 11 by decide)))
      have R3 : Hid (RowAt (w'.setCell ⟨g, 7, none⟩ (.int .i64 gc)) g (inoL ⟨gk, gp, gu, gl, gs, ga, gb, gc, 0, ge, gf⟩)) := Lib.hid (RowAt.setOne R2.out 7 (.int .i64 gc) (show 7 < 11 by decide))
      have S3 := Lib.hid (S2.out.setOut g 7 (.int .i64 gc) HG.out)
      clear S2 R2
      go_roundw
      case rel => exact ⟨3, by omega, rfl, S3.out, R3.out⟩
      case measure => simp [intOf]
    · have S2 := Lib.hid hS
      have R2 : Hid (RowAt wr g (inoL ⟨gk, gp, gu, gl, gs, ga, gb, gc, 0, ge, gf⟩)) := Lib.hid hR
      clear hS hR
      go_wp2_with (first
        | (with_reducible refine wpList_load_page S2.out.page rfl (.tmp 2) rfl rfl ?_)
        | (go_at_call 19; refine (Hgd.out _).mono ?_; rintro e w' ⟨rfl, hb⟩; replace R2 := Lib.hid (RowAt.step R2.out hb); replace S2 := Lib.hid (S2.out.call hb); clear hb; have hcc := R2.out.cell 8 _ rfl; have hff := R2.out.frozen 8 (show 8 < 11 by decide)))
      have R3 : Hid (RowAt (w'.setCell ⟨g, 8, none⟩ (.int .i64 gd)) g (inoL ⟨gk, gp, gu, gl, gs, ga, gb, gc, gd, ge, gf⟩)) := Lib.hid (RowAt.setOne R2.out 8 (.int .i64 gd) (show 8 < 11 by decide))
      have S3 := Lib.hid (S2.out.setOut g 8 (.int .i64 gd) HG.out)
      clear S2 R2
      go_roundw
      case rel => exact ⟨4, by omega, rfl, S3.out, R3.out⟩
      case measure => simp [intOf]
    · have S2 := Lib.hid hS
      have R2 : Hid (RowAt wr g (inoL ⟨gk, gp, gu, gl, gs, ga, gb, gc, gd, ge, gf⟩)) := Lib.hid hR
      clear hS hR
      go_wp2_with (first
        | (with_reducible refine wpList_load_row rinoT R2.out rfl rfl (.tmp 6) rfl rfl ?_)
        | ((with_reducible refine wpList_store_row rinoT (vs := inoL ⟨gk, gp, gu, gl, gs, ga, gb, gc, gd, ge, gf⟩) S2.out.out rfl rfl (inoL_one _) rfl (.tmp 4) (.tmp 52) rfl rfl ?_ ?_); (exact rfl)))
      exact bodyPost_ret (results_row1 rinoT _ 4 rfl _ (S2.out.back _).1 rfl rfl) rfl ⟨rfl, (S2.out.back _).2⟩
end Go.Proofs.Ytchlhnpnenafnaa
