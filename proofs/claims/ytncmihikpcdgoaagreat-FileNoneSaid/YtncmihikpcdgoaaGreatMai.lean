/- Texts of the proof: Iget, Icnt, Floc, Fbase, Fway. -/
import Derived.Test.YtncmihikpcdgoaaGreatMah
import Derived.Test.YtncmihikpcdgoaaGreatMaf
import Derived.Test.YtncmihikpcdgoaaGreatMae
import Derived.RegionTactic
import Derived.IntWalk
namespace Go.Proofs.YtncmihikpcdgoaaGreat
open Dk (zeros zeros_length)
open Go.RowKit
open Ii (Ino)
set_option maxRecDepth 100000 in
set_option maxHeartbeats 4000000 in
theorem iget_0 (p : List UInt8) (w : World) (hp : p.length = 64) :
    Calls Tryz.prog 109 #[pageV p, .int .i64 0] w fun e w' => e = .returned (inoV (Ii.getI p 0)) ∧ Below w.heap.size w w' := by
  have HS := Lib.hid (bxS_box w p 31 hp)
  have Hgk := Lib.hid (fun (w : World) => get_any p 0 1 w hp (by decide) (by decide))
  have Hgp := Lib.hid (fun (w : World) => get_any p 2 2 w hp (by decide) (by decide))
  have Hgu := Lib.hid (fun (w : World) => get_any p 4 2 w hp (by decide) (by decide))
  have Hgl := Lib.hid (fun (w : World) => get_any p 6 2 w hp (by decide) (by decide))
  have Hgs := Lib.hid (fun (w : World) => get_any p 8 4 w hp (by decide) (by decide))
  have Hga := Lib.hid (fun (w : World) => get_any p 12 2 w hp (by decide) (by decide))
  have Hgb := Lib.hid (fun (w : World) => get_any p 14 2 w hp (by decide) (by decide))
  have Hgc := Lib.hid (fun (w : World) => get_any p 16 2 w hp (by decide) (by decide))
  have Hgd := Lib.hid (fun (w : World) => get_any p 18 2 w hp (by decide) (by decide))
  have Hge := Lib.hid (fun (w : World) => get_any p 20 2 w hp (by decide) (by decide))
  have Hgf := Lib.hid (fun (w : World) => get_any p 22 2 w hp (by decide) (by decide))
  have HE : Hid (Ii.getI p 0 = ⟨Pg.getN p 0 1, Pg.getN p 2 2, Pg.getN p 4 2, Pg.getN p 6 2, Pg.getN p 8 4, Pg.getN p 12 2, Pg.getN p 14 2, Pg.getN p 16 2, Pg.getN p 18 2, Pg.getN p 20 2, Pg.getN p 22 2⟩) := Lib.hid rfl
  rw [HE.out]
  clear HE hp
  generalize Pg.getN p 0 1 = gk at Hgk ⊢
  generalize Pg.getN p 2 2 = gp at Hgp ⊢
  generalize Pg.getN p 4 2 = gu at Hgu ⊢
  generalize Pg.getN p 6 2 = gl at Hgl ⊢
  generalize Pg.getN p 8 4 = gs at Hgs ⊢
  generalize Pg.getN p 12 2 = ga at Hga ⊢
  generalize Pg.getN p 14 2 = gb at Hgb ⊢
  generalize Pg.getN p 16 2 = gc at Hgc ⊢
  generalize Pg.getN p 18 2 = gd at Hgd ⊢
  generalize Pg.getN p 20 2 = ge at Hge ⊢
  generalize Pg.getN p 22 2 = gf at Hgf ⊢
  obtain ⟨y0, HY⟩ : ∃ y0 : Ino, Hid (y0 = ⟨gk, gp, gu, gl, gs, 0, 0, 0, 0, ge, gf⟩) := ⟨_, Lib.hid rfl⟩
  unfold pageV
  go_enter Tryz.func109, Tryz.ntmps109
  go_wp2_with fail
  refine (isThere_yes _ _ (by decide) (by decide)).mono ?_
  rintro e w1 ⟨rfl, hw⟩
  have S : Hid (BxS w p w1) := Lib.hid (by rw [← hw]; exact HS.out)
  clear hw HS
  go_wp2_with fail
  refine wp_region_lin (GtS w p y0) (fun i => i == 29 || i == 30) (fun i => [pageV p, .int .i64 0, .int .i64 0, .int .i64 gk, pageV p, .int .i64 0, .int .i64 2, .int .i64 gp, pageV p, .int .i64 0, .int .i64 4, .int .i64 gu, pageV p, .int .i64 0, .int .i64 6, .int .i64 gl, pageV p, .int .i64 0, .int .i64 8, .int .i64 gs, pageV p, .int .i64 0, .int .i64 20, .int .i64 ge, pageV p, .int .i64 0, .int .i64 22, .int .i64 gf, inoV y0].getD i undef) (none) (by kernel_rfl) (by kernel_rfl) (⟨BxS.drew S.out, trivial⟩) ?_
  refine lin_step (i := 0) (d := some 14) (v := pageV p) rfl rfl (by kernel_rfl) (by kernel_rfl) rfl rfl (ord_page (by kernel_rfl) (.tmp 2) rfl rfl (fun _ _ hS => hS.1.page)) ?_
  (try simp only [Act.put, List.setIfInBounds_toArray, List.set_cons_zero, List.set_cons_succ])
  refine lin_step (i := 1) (d := some 15) (v := .int .i64 0) rfl rfl (by kernel_rfl) (by kernel_rfl) rfl rfl (ord_value (by kernel_rfl) ?_) ?_
  · (intro _ _ _; go_simp) <;> kernel_rfl
  (try simp only [Act.put, List.setIfInBounds_toArray, List.set_cons_zero, List.set_cons_succ])
  refine lin_step (i := 2) (d := some 16) (v := .int .i64 0) rfl rfl (by kernel_rfl) (by kernel_rfl) rfl rfl (ord_value (by kernel_rfl) ?_) ?_
  · (intro _ _ _; go_simp) <;> kernel_rfl
  (try simp only [Act.put, List.setIfInBounds_toArray, List.set_cons_zero, List.set_cons_succ])
  refine lin_step (i := 3) (d := some 17) (v := .int .i64 gk) rfl rfl (by kernel_rfl) (by kernel_rfl) rfl rfl (ord_call (f := 135) (args := #[pageV p, .int .i64 0, .int .i64 1]) (by kernel_rfl) ?_ (fun _ W hS => (Hgk.out W).mono fun _ _ h => ⟨h.1, GtS.call hS h.2⟩)) ?_
  · intro _; go_simp
  (try simp only [Act.put, List.setIfInBounds_toArray, List.set_cons_zero, List.set_cons_succ])
  refine lin_step (i := 4) (d := some 18) (v := pageV p) rfl rfl (by kernel_rfl) (by kernel_rfl) rfl rfl (ord_page (by kernel_rfl) (.tmp 2) rfl rfl (fun _ _ hS => hS.1.page)) ?_
  (try simp only [Act.put, List.setIfInBounds_toArray, List.set_cons_zero, List.set_cons_succ])
  refine lin_step (i := 5) (d := some 19) (v := .int .i64 0) rfl rfl (by kernel_rfl) (by kernel_rfl) rfl rfl (ord_value (by kernel_rfl) ?_) ?_
  · (intro _ _ _; go_simp) <;> kernel_rfl
  (try simp only [Act.put, List.setIfInBounds_toArray, List.set_cons_zero, List.set_cons_succ])
  refine lin_step (i := 6) (d := some 20) (v := .int .i64 2) rfl rfl (by kernel_rfl) (by kernel_rfl) rfl rfl (ord_value (by kernel_rfl) ?_) ?_
  · (intro _ _ _; go_simp) <;> kernel_rfl
  (try simp only [Act.put, List.setIfInBounds_toArray, List.set_cons_zero, List.set_cons_succ])
  refine lin_step (i := 7) (d := some 21) (v := .int .i64 gp) rfl rfl (by kernel_rfl) (by kernel_rfl) rfl rfl (ord_call (f := 135) (args := #[pageV p, .int .i64 2, .int .i64 2]) (by kernel_rfl) ?_ (fun _ W hS => (Hgp.out W).mono fun _ _ h => ⟨h.1, GtS.call hS h.2⟩)) ?_
  · intro _; go_simp
  (try simp only [Act.put, List.setIfInBounds_toArray, List.set_cons_zero, List.set_cons_succ])
  refine lin_step (i := 8) (d := some 22) (v := pageV p) rfl rfl (by kernel_rfl) (by kernel_rfl) rfl rfl (ord_page (by kernel_rfl) (.tmp 2) rfl rfl (fun _ _ hS => hS.1.page)) ?_
  (try simp only [Act.put, List.setIfInBounds_toArray, List.set_cons_zero, List.set_cons_succ])
  refine lin_step (i := 9) (d := some 23) (v := .int .i64 0) rfl rfl (by kernel_rfl) (by kernel_rfl) rfl rfl (ord_value (by kernel_rfl) ?_) ?_
  · (intro _ _ _; go_simp) <;> kernel_rfl
  (try simp only [Act.put, List.setIfInBounds_toArray, List.set_cons_zero, List.set_cons_succ])
  refine lin_step (i := 10) (d := some 24) (v := .int .i64 4) rfl rfl (by kernel_rfl) (by kernel_rfl) rfl rfl (ord_value (by kernel_rfl) ?_) ?_
  · (intro _ _ _; go_simp) <;> kernel_rfl
  (try simp only [Act.put, List.setIfInBounds_toArray, List.set_cons_zero, List.set_cons_succ])
  refine lin_step (i := 11) (d := some 25) (v := .int .i64 gu) rfl rfl (by kernel_rfl) (by kernel_rfl) rfl rfl (ord_call (f := 135) (args := #[pageV p, .int .i64 4, .int .i64 2]) (by kernel_rfl) ?_ (fun _ W hS => (Hgu.out W).mono fun _ _ h => ⟨h.1, GtS.call hS h.2⟩)) ?_
  · intro _; go_simp
  (try simp only [Act.put, List.setIfInBounds_toArray, List.set_cons_zero, List.set_cons_succ])
  refine lin_step (i := 12) (d := some 26) (v := pageV p) rfl rfl (by kernel_rfl) (by kernel_rfl) rfl rfl (ord_page (by kernel_rfl) (.tmp 2) rfl rfl (fun _ _ hS => hS.1.page)) ?_
  (try simp only [Act.put, List.setIfInBounds_toArray, List.set_cons_zero, List.set_cons_succ])
  refine lin_step (i := 13) (d := some 27) (v := .int .i64 0) rfl rfl (by kernel_rfl) (by kernel_rfl) rfl rfl (ord_value (by kernel_rfl) ?_) ?_
  · (intro _ _ _; go_simp) <;> kernel_rfl
  (try simp only [Act.put, List.setIfInBounds_toArray, List.set_cons_zero, List.set_cons_succ])
  refine lin_step (i := 14) (d := some 28) (v := .int .i64 6) rfl rfl (by kernel_rfl) (by kernel_rfl) rfl rfl (ord_value (by kernel_rfl) ?_) ?_
  · (intro _ _ _; go_simp) <;> kernel_rfl
  (try simp only [Act.put, List.setIfInBounds_toArray, List.set_cons_zero, List.set_cons_succ])
  refine lin_step (i := 15) (d := some 29) (v := .int .i64 gl) rfl rfl (by kernel_rfl) (by kernel_rfl) rfl rfl (ord_call (f := 135) (args := #[pageV p, .int .i64 6, .int .i64 2]) (by kernel_rfl) ?_ (fun _ W hS => (Hgl.out W).mono fun _ _ h => ⟨h.1, GtS.call hS h.2⟩)) ?_
  · intro _; go_simp
  (try simp only [Act.put, List.setIfInBounds_toArray, List.set_cons_zero, List.set_cons_succ])
  refine lin_step (i := 16) (d := some 30) (v := pageV p) rfl rfl (by kernel_rfl) (by kernel_rfl) rfl rfl (ord_page (by kernel_rfl) (.tmp 2) rfl rfl (fun _ _ hS => hS.1.page)) ?_
  (try simp only [Act.put, List.setIfInBounds_toArray, List.set_cons_zero, List.set_cons_succ])
  refine lin_step (i := 17) (d := some 31) (v := .int .i64 0) rfl rfl (by kernel_rfl) (by kernel_rfl) rfl rfl (ord_value (by kernel_rfl) ?_) ?_
  · (intro _ _ _; go_simp) <;> kernel_rfl
  (try simp only [Act.put, List.setIfInBounds_toArray, List.set_cons_zero, List.set_cons_succ])
  refine lin_step (i := 18) (d := some 32) (v := .int .i64 8) rfl rfl (by kernel_rfl) (by kernel_rfl) rfl rfl (ord_value (by kernel_rfl) ?_) ?_
  · (intro _ _ _; go_simp) <;> kernel_rfl
  (try simp only [Act.put, List.setIfInBounds_toArray, List.set_cons_zero, List.set_cons_succ])
  refine lin_step (i := 19) (d := some 33) (v := .int .i64 gs) rfl rfl (by kernel_rfl) (by kernel_rfl) rfl rfl (ord_call (f := 135) (args := #[pageV p, .int .i64 8, .int .i64 4]) (by kernel_rfl) ?_ (fun _ W hS => (Hgs.out W).mono fun _ _ h => ⟨h.1, GtS.call hS h.2⟩)) ?_
  · intro _; go_simp
  (try simp only [Act.put, List.setIfInBounds_toArray, List.set_cons_zero, List.set_cons_succ])
  refine lin_step (i := 20) (d := some 34) (v := pageV p) rfl rfl (by kernel_rfl) (by kernel_rfl) rfl rfl (ord_page (by kernel_rfl) (.tmp 2) rfl rfl (fun _ _ hS => hS.1.page)) ?_
  (try simp only [Act.put, List.setIfInBounds_toArray, List.set_cons_zero, List.set_cons_succ])
  refine lin_step (i := 21) (d := some 35) (v := .int .i64 0) rfl rfl (by kernel_rfl) (by kernel_rfl) rfl rfl (ord_value (by kernel_rfl) ?_) ?_
  · (intro _ _ _; go_simp) <;> kernel_rfl
  (try simp only [Act.put, List.setIfInBounds_toArray, List.set_cons_zero, List.set_cons_succ])
  refine lin_step (i := 22) (d := some 36) (v := .int .i64 20) rfl rfl (by kernel_rfl) (by kernel_rfl) rfl rfl (ord_value (by kernel_rfl) ?_) ?_
  · (intro _ _ _; go_simp) <;> kernel_rfl
  (try simp only [Act.put, List.setIfInBounds_toArray, List.set_cons_zero, List.set_cons_succ])
  refine lin_step (i := 23) (d := some 37) (v := .int .i64 ge) rfl rfl (by kernel_rfl) (by kernel_rfl) rfl rfl (ord_call (f := 135) (args := #[pageV p, .int .i64 20, .int .i64 2]) (by kernel_rfl) ?_ (fun _ W hS => (Hge.out W).mono fun _ _ h => ⟨h.1, GtS.call hS h.2⟩)) ?_
  · intro _; go_simp
  (try simp only [Act.put, List.setIfInBounds_toArray, List.set_cons_zero, List.set_cons_succ])
  refine lin_step (i := 24) (d := some 38) (v := pageV p) rfl rfl (by kernel_rfl) (by kernel_rfl) rfl rfl (ord_page (by kernel_rfl) (.tmp 2) rfl rfl (fun _ _ hS => hS.1.page)) ?_
  (try simp only [Act.put, List.setIfInBounds_toArray, List.set_cons_zero, List.set_cons_succ])
  refine lin_step (i := 25) (d := some 39) (v := .int .i64 0) rfl rfl (by kernel_rfl) (by kernel_rfl) rfl rfl (ord_value (by kernel_rfl) ?_) ?_
  · (intro _ _ _; go_simp) <;> kernel_rfl
  (try simp only [Act.put, List.setIfInBounds_toArray, List.set_cons_zero, List.set_cons_succ])
  refine lin_step (i := 26) (d := some 40) (v := .int .i64 22) rfl rfl (by kernel_rfl) (by kernel_rfl) rfl rfl (ord_value (by kernel_rfl) ?_) ?_
  · (intro _ _ _; go_simp) <;> kernel_rfl
  (try simp only [Act.put, List.setIfInBounds_toArray, List.set_cons_zero, List.set_cons_succ])
  refine lin_step (i := 27) (d := some 41) (v := .int .i64 gf) rfl rfl (by kernel_rfl) (by kernel_rfl) rfl rfl (ord_call (f := 135) (args := #[pageV p, .int .i64 22, .int .i64 2]) (by kernel_rfl) ?_ (fun _ W hS => (Hgf.out W).mono fun _ _ h => ⟨h.1, GtS.call hS h.2⟩)) ?_
  · intro _; go_simp
  (try simp only [Act.put, List.setIfInBounds_toArray, List.set_cons_zero, List.set_cons_succ])
  refine lin_step (i := 28) (d := some 42) (v := inoV y0) rfl rfl (by kernel_rfl) (by kernel_rfl) rfl rfl (ord_value (by kernel_rfl) ?_) ?_
  · (intro _ _ _; rw [HY.out]; go_simp) <;> rfl
  (try simp only [Act.put, List.setIfInBounds_toArray, List.set_cons_zero, List.set_cons_succ])
  refine lin_turn (i := 29) (d := some 6) (fun u s => ∃ g, w.heap.size + 1 < g ∧ u = .pointer (some ⟨g, 0, none⟩) ∧ s = some (g, false)) rfl rfl (by kernel_rfl) (by kernel_rfl) rfl (by kernel_rfl) (⟨_, _, w.heap.size + 2, by omega, rfl, rfl⟩) (by kernel_rfl) (fun W hS => gives_to (v := .pointer (some ⟨W.heap.size, 0, none⟩)) (w' := W.alloc (.cells (inoL Ii.zero).toArray 31)) (by go_simp; rfl) ⟨some (W.heap.size, false), ⟨W.heap.size, hS.1.out.lt, rfl, rfl⟩, GtS.alloc hS.1⟩) ?_
  rintro _ _ ⟨g, hg, rfl, rfl⟩
  (try simp only [Act.put, List.setIfInBounds_toArray, List.set_cons_zero, List.set_cons_succ])
  refine lin_turn (i := 30) (d := none) (fun u s => u = undef ∧ s = some (g, true)) rfl rfl (by kernel_rfl) (by kernel_rfl) rfl (by kernel_rfl) (⟨_, _, rfl, rfl⟩) (by kernel_rfl) (fun W hS => gives_store_row inoT hS.2.2 rfl rfl (inoL_one y0) (.tmp 6) (.tmp 42) rfl rfl rfl ⟨some (g, true), ⟨rfl, rfl⟩, GtS.put hS⟩) ?_
  rintro _ _ ⟨rfl, rfl⟩
  (try simp only [Act.put, List.setIfInBounds_toArray, List.set_cons_zero, List.set_cons_succ])
  refine lin_done (by kernel_rfl) ?_
  intro W2 hS
  have S2 : Hid (BxS w p W2) := Lib.hid hS.1
  have R2 : Hid (RowAt W2 g (inoL ⟨gk, gp, gu, gl, gs, 0, 0, 0, 0, ge, gf⟩)) := Lib.hid (by rw [← HY.out]; exact hS.2.2)
  have HG := Lib.hid hg
  clear hS S hg HY
  go_wp2_with fail
  go_loopw [43] (fun i wr => ∃ k : Nat, k ≤ 4 ∧ i = .int .i64 (k : Int) ∧ BxS w p wr ∧ RowAt wr g (inoL ⟨gk, gp, gu, gl, gs, if k < 1 then 0 else ga, if k < 2 then 0 else gb, if k < 3 then 0 else gc, if k < 4 then 0 else gd, ge, gf⟩)) (fun i _ => 4 - (intOf i).toNat)
  case atStart => exact ⟨0, by omega, rfl, S2.out, R2.out⟩
  case round =>
    clear S2 R2
    obtain ⟨k, hk, rfl, hS, hR⟩ := hrel
    have hk : k = 0 ∨ k = 1 ∨ k = 2 ∨ k = 3 ∨ k = 4 := by omega
    rcases hk with rfl | rfl | rfl | rfl | rfl
    · have S2 := Lib.hid hS
      have R2 : Hid (RowAt wr g (inoL ⟨gk, gp, gu, gl, gs, 0, 0, 0, 0, ge, gf⟩)) := Lib.hid hR
      clear hS hR
      go_wp2_with (first
        | (with_reducible refine wpList_load_page S2.out.page rfl (.tmp 2) rfl rfl ?_)
        | (go_at_call 135; refine (Hga.out _).mono ?_; rintro e w' ⟨rfl, hb⟩; replace R2 := Lib.hid (RowAt.step R2.out hb); replace S2 := Lib.hid (S2.out.call hb); clear hb; have hcc := R2.out.cell 5 _ rfl; have hff := R2.out.frozen 5 (show 5 < 11 by decide)))
      have R3 : Hid (RowAt (w'.setCell ⟨g, 5, none⟩ (.int .i64 ga)) g (inoL ⟨gk, gp, gu, gl, gs, ga, 0, 0, 0, ge, gf⟩)) := Lib.hid (RowAt.setOne R2.out 5 (.int .i64 ga) (show 5 < 11 by decide))
      have S3 := Lib.hid (S2.out.setOut g 5 (.int .i64 ga) HG.out)
      clear S2 R2
      go_roundw
      case rel => exact ⟨1, by omega, rfl, S3.out, R3.out⟩
      case measure => simp [intOf]
    · have S2 := Lib.hid hS
      have R2 : Hid (RowAt wr g (inoL ⟨gk, gp, gu, gl, gs, ga, 0, 0, 0, ge, gf⟩)) := Lib.hid hR
      clear hS hR
      go_wp2_with (first
        | (with_reducible refine wpList_load_page S2.out.page rfl (.tmp 2) rfl rfl ?_)
        | (go_at_call 135; refine (Hgb.out _).mono ?_; rintro e w' ⟨rfl, hb⟩; replace R2 := Lib.hid (RowAt.step R2.out hb); replace S2 := Lib.hid (S2.out.call hb); clear hb; have hcc := R2.out.cell 6 _ rfl; have hff := R2.out.frozen 6 (show 6 < 11 by decide)))
      have R3 : Hid (RowAt (w'.setCell ⟨g, 6, none⟩ (.int .i64 gb)) g (inoL ⟨gk, gp, gu, gl, gs, ga, gb, 0, 0, ge, gf⟩)) := Lib.hid (RowAt.setOne R2.out 6 (.int .i64 gb) (show 6 < 11 by decide))
      have S3 := Lib.hid (S2.out.setOut g 6 (.int .i64 gb) HG.out)
      clear S2 R2
      go_roundw
      case rel => exact ⟨2, by omega, rfl, S3.out, R3.out⟩
      case measure => simp [intOf]
    · have S2 := Lib.hid hS
      have R2 : Hid (RowAt wr g (inoL ⟨gk, gp, gu, gl, gs, ga, gb, 0, 0, ge, gf⟩)) := Lib.hid hR
      clear hS hR
      go_wp2_with (first
        | (with_reducible refine wpList_load_page S2.out.page rfl (.tmp 2) rfl rfl ?_)
        | (go_at_call 135; refine (Hgc.out _).mono ?_; rintro e w' ⟨rfl, hb⟩; replace R2 := Lib.hid (RowAt.step R2.out hb); replace S2 := Lib.hid (S2.out.call hb); clear hb; have hcc := R2.out.cell 7 _ rfl; have hff := R2.out.frozen 7 (show 7 < 11 by decide)))
      have R3 : Hid (RowAt (w'.setCell ⟨g, 7, none⟩ (.int .i64 gc)) g (inoL ⟨gk, gp, gu, gl, gs, ga, gb, gc, 0, ge, gf⟩)) := Lib.hid (RowAt.setOne R2.out 7 (.int .i64 gc) (show 7 < 11 by decide))
      have S3 := Lib.hid (S2.out.setOut g 7 (.int .i64 gc) HG.out)
      clear S2 R2
      go_roundw
      case rel => exact ⟨3, by omega, rfl, S3.out, R3.out⟩
      case measure => simp [intOf]
    · have S2 := Lib.hid hS
      have R2 : Hid (RowAt wr g (inoL ⟨gk, gp, gu, gl, gs, ga, gb, gc, 0, ge, gf⟩)) := Lib.hid hR
      clear hS hR
      go_wp2_with (first
        | (with_reducible refine wpList_load_page S2.out.page rfl (.tmp 2) rfl rfl ?_)
        | (go_at_call 135; refine (Hgd.out _).mono ?_; rintro e w' ⟨rfl, hb⟩; replace R2 := Lib.hid (RowAt.step R2.out hb); replace S2 := Lib.hid (S2.out.call hb); clear hb; have hcc := R2.out.cell 8 _ rfl; have hff := R2.out.frozen 8 (show 8 < 11 by decide)))
      have R3 : Hid (RowAt (w'.setCell ⟨g, 8, none⟩ (.int .i64 gd)) g (inoL ⟨gk, gp, gu, gl, gs, ga, gb, gc, gd, ge, gf⟩)) := Lib.hid (RowAt.setOne R2.out 8 (.int .i64 gd) (show 8 < 11 by decide))
      have S3 := Lib.hid (S2.out.setOut g 8 (.int .i64 gd) HG.out)
      clear S2 R2
      go_roundw
      case rel => exact ⟨4, by omega, rfl, S3.out, R3.out⟩
      case measure => simp [intOf]
    · have S2 := Lib.hid hS
      have R2 : Hid (RowAt wr g (inoL ⟨gk, gp, gu, gl, gs, ga, gb, gc, gd, ge, gf⟩)) := Lib.hid hR
      clear hS hR
      go_wp2_with (first
        | (with_reducible refine wpList_load_rw inoT R2.out rfl rfl (.tmp 6) rfl rfl ?_)
        | ((with_reducible refine wpList_store_rw inoT (vs := inoL ⟨gk, gp, gu, gl, gs, ga, gb, gc, gd, ge, gf⟩) S2.out.out rfl rfl (inoL_one _) rfl (.tmp 4) (.tmp 57) rfl rfl ?_ ?_); (exact rfl)))
      exact bodyPost_ret (results_row1 inoT _ 4 rfl _ (S2.out.back _).1 rfl rfl) rfl ⟨rfl, (S2.out.back _).2⟩
set_option maxRecDepth 100000 in
set_option maxHeartbeats 4000000 in
theorem iget_1 (p : List UInt8) (w : World) (hp : p.length = 64) :
    Calls Tryz.prog 109 #[pageV p, .int .i64 1] w fun e w' => e = .returned (inoV (Ii.getI p 32)) ∧ Below w.heap.size w w' := by
  have HS := Lib.hid (bxS_box w p 31 hp)
  have Hgk := Lib.hid (fun (w : World) => get_any p 32 1 w hp (by decide) (by decide))
  have Hgp := Lib.hid (fun (w : World) => get_any p 34 2 w hp (by decide) (by decide))
  have Hgu := Lib.hid (fun (w : World) => get_any p 36 2 w hp (by decide) (by decide))
  have Hgl := Lib.hid (fun (w : World) => get_any p 38 2 w hp (by decide) (by decide))
  have Hgs := Lib.hid (fun (w : World) => get_any p 40 4 w hp (by decide) (by decide))
  have Hga := Lib.hid (fun (w : World) => get_any p 44 2 w hp (by decide) (by decide))
  have Hgb := Lib.hid (fun (w : World) => get_any p 46 2 w hp (by decide) (by decide))
  have Hgc := Lib.hid (fun (w : World) => get_any p 48 2 w hp (by decide) (by decide))
  have Hgd := Lib.hid (fun (w : World) => get_any p 50 2 w hp (by decide) (by decide))
  have Hge := Lib.hid (fun (w : World) => get_any p 52 2 w hp (by decide) (by decide))
  have Hgf := Lib.hid (fun (w : World) => get_any p 54 2 w hp (by decide) (by decide))
  have HE : Hid (Ii.getI p 32 = ⟨Pg.getN p 32 1, Pg.getN p 34 2, Pg.getN p 36 2, Pg.getN p 38 2, Pg.getN p 40 4, Pg.getN p 44 2, Pg.getN p 46 2, Pg.getN p 48 2, Pg.getN p 50 2, Pg.getN p 52 2, Pg.getN p 54 2⟩) := Lib.hid rfl
  rw [HE.out]
  clear HE hp
  generalize Pg.getN p 32 1 = gk at Hgk ⊢
  generalize Pg.getN p 34 2 = gp at Hgp ⊢
  generalize Pg.getN p 36 2 = gu at Hgu ⊢
  generalize Pg.getN p 38 2 = gl at Hgl ⊢
  generalize Pg.getN p 40 4 = gs at Hgs ⊢
  generalize Pg.getN p 44 2 = ga at Hga ⊢
  generalize Pg.getN p 46 2 = gb at Hgb ⊢
  generalize Pg.getN p 48 2 = gc at Hgc ⊢
  generalize Pg.getN p 50 2 = gd at Hgd ⊢
  generalize Pg.getN p 52 2 = ge at Hge ⊢
  generalize Pg.getN p 54 2 = gf at Hgf ⊢
  obtain ⟨y0, HY⟩ : ∃ y0 : Ino, Hid (y0 = ⟨gk, gp, gu, gl, gs, 0, 0, 0, 0, ge, gf⟩) := ⟨_, Lib.hid rfl⟩
  unfold pageV
  go_enter Tryz.func109, Tryz.ntmps109
  go_wp2_with fail
  refine (isThere_yes _ _ (by decide) (by decide)).mono ?_
  rintro e w1 ⟨rfl, hw⟩
  have S : Hid (BxS w p w1) := Lib.hid (by rw [← hw]; exact HS.out)
  clear hw HS
  go_wp2_with fail
  refine wp_region_lin (GtS w p y0) (fun i => i == 29 || i == 30) (fun i => [pageV p, .int .i64 32, .int .i64 32, .int .i64 gk, pageV p, .int .i64 32, .int .i64 34, .int .i64 gp, pageV p, .int .i64 32, .int .i64 36, .int .i64 gu, pageV p, .int .i64 32, .int .i64 38, .int .i64 gl, pageV p, .int .i64 32, .int .i64 40, .int .i64 gs, pageV p, .int .i64 32, .int .i64 52, .int .i64 ge, pageV p, .int .i64 32, .int .i64 54, .int .i64 gf, inoV y0].getD i undef) (none) (by kernel_rfl) (by kernel_rfl) (⟨BxS.drew S.out, trivial⟩) ?_
  refine lin_step (i := 0) (d := some 14) (v := pageV p) rfl rfl (by kernel_rfl) (by kernel_rfl) rfl rfl (ord_page (by kernel_rfl) (.tmp 2) rfl rfl (fun _ _ hS => hS.1.page)) ?_
  (try simp only [Act.put, List.setIfInBounds_toArray, List.set_cons_zero, List.set_cons_succ])
  refine lin_step (i := 1) (d := some 15) (v := .int .i64 32) rfl rfl (by kernel_rfl) (by kernel_rfl) rfl rfl (ord_value (by kernel_rfl) ?_) ?_
  · (intro _ _ _; go_simp) <;> kernel_rfl
  (try simp only [Act.put, List.setIfInBounds_toArray, List.set_cons_zero, List.set_cons_succ])
  refine lin_step (i := 2) (d := some 16) (v := .int .i64 32) rfl rfl (by kernel_rfl) (by kernel_rfl) rfl rfl (ord_value (by kernel_rfl) ?_) ?_
  · (intro _ _ _; go_simp) <;> kernel_rfl
  (try simp only [Act.put, List.setIfInBounds_toArray, List.set_cons_zero, List.set_cons_succ])
  refine lin_step (i := 3) (d := some 17) (v := .int .i64 gk) rfl rfl (by kernel_rfl) (by kernel_rfl) rfl rfl (ord_call (f := 135) (args := #[pageV p, .int .i64 32, .int .i64 1]) (by kernel_rfl) ?_ (fun _ W hS => (Hgk.out W).mono fun _ _ h => ⟨h.1, GtS.call hS h.2⟩)) ?_
  · intro _; go_simp
  (try simp only [Act.put, List.setIfInBounds_toArray, List.set_cons_zero, List.set_cons_succ])
  refine lin_step (i := 4) (d := some 18) (v := pageV p) rfl rfl (by kernel_rfl) (by kernel_rfl) rfl rfl (ord_page (by kernel_rfl) (.tmp 2) rfl rfl (fun _ _ hS => hS.1.page)) ?_
  (try simp only [Act.put, List.setIfInBounds_toArray, List.set_cons_zero, List.set_cons_succ])
  refine lin_step (i := 5) (d := some 19) (v := .int .i64 32) rfl rfl (by kernel_rfl) (by kernel_rfl) rfl rfl (ord_value (by kernel_rfl) ?_) ?_
  · (intro _ _ _; go_simp) <;> kernel_rfl
  (try simp only [Act.put, List.setIfInBounds_toArray, List.set_cons_zero, List.set_cons_succ])
  refine lin_step (i := 6) (d := some 20) (v := .int .i64 34) rfl rfl (by kernel_rfl) (by kernel_rfl) rfl rfl (ord_value (by kernel_rfl) ?_) ?_
  · (intro _ _ _; go_simp) <;> kernel_rfl
  (try simp only [Act.put, List.setIfInBounds_toArray, List.set_cons_zero, List.set_cons_succ])
  refine lin_step (i := 7) (d := some 21) (v := .int .i64 gp) rfl rfl (by kernel_rfl) (by kernel_rfl) rfl rfl (ord_call (f := 135) (args := #[pageV p, .int .i64 34, .int .i64 2]) (by kernel_rfl) ?_ (fun _ W hS => (Hgp.out W).mono fun _ _ h => ⟨h.1, GtS.call hS h.2⟩)) ?_
  · intro _; go_simp
  (try simp only [Act.put, List.setIfInBounds_toArray, List.set_cons_zero, List.set_cons_succ])
  refine lin_step (i := 8) (d := some 22) (v := pageV p) rfl rfl (by kernel_rfl) (by kernel_rfl) rfl rfl (ord_page (by kernel_rfl) (.tmp 2) rfl rfl (fun _ _ hS => hS.1.page)) ?_
  (try simp only [Act.put, List.setIfInBounds_toArray, List.set_cons_zero, List.set_cons_succ])
  refine lin_step (i := 9) (d := some 23) (v := .int .i64 32) rfl rfl (by kernel_rfl) (by kernel_rfl) rfl rfl (ord_value (by kernel_rfl) ?_) ?_
  · (intro _ _ _; go_simp) <;> kernel_rfl
  (try simp only [Act.put, List.setIfInBounds_toArray, List.set_cons_zero, List.set_cons_succ])
  refine lin_step (i := 10) (d := some 24) (v := .int .i64 36) rfl rfl (by kernel_rfl) (by kernel_rfl) rfl rfl (ord_value (by kernel_rfl) ?_) ?_
  · (intro _ _ _; go_simp) <;> kernel_rfl
  (try simp only [Act.put, List.setIfInBounds_toArray, List.set_cons_zero, List.set_cons_succ])
  refine lin_step (i := 11) (d := some 25) (v := .int .i64 gu) rfl rfl (by kernel_rfl) (by kernel_rfl) rfl rfl (ord_call (f := 135) (args := #[pageV p, .int .i64 36, .int .i64 2]) (by kernel_rfl) ?_ (fun _ W hS => (Hgu.out W).mono fun _ _ h => ⟨h.1, GtS.call hS h.2⟩)) ?_
  · intro _; go_simp
  (try simp only [Act.put, List.setIfInBounds_toArray, List.set_cons_zero, List.set_cons_succ])
  refine lin_step (i := 12) (d := some 26) (v := pageV p) rfl rfl (by kernel_rfl) (by kernel_rfl) rfl rfl (ord_page (by kernel_rfl) (.tmp 2) rfl rfl (fun _ _ hS => hS.1.page)) ?_
  (try simp only [Act.put, List.setIfInBounds_toArray, List.set_cons_zero, List.set_cons_succ])
  refine lin_step (i := 13) (d := some 27) (v := .int .i64 32) rfl rfl (by kernel_rfl) (by kernel_rfl) rfl rfl (ord_value (by kernel_rfl) ?_) ?_
  · (intro _ _ _; go_simp) <;> kernel_rfl
  (try simp only [Act.put, List.setIfInBounds_toArray, List.set_cons_zero, List.set_cons_succ])
  refine lin_step (i := 14) (d := some 28) (v := .int .i64 38) rfl rfl (by kernel_rfl) (by kernel_rfl) rfl rfl (ord_value (by kernel_rfl) ?_) ?_
  · (intro _ _ _; go_simp) <;> kernel_rfl
  (try simp only [Act.put, List.setIfInBounds_toArray, List.set_cons_zero, List.set_cons_succ])
  refine lin_step (i := 15) (d := some 29) (v := .int .i64 gl) rfl rfl (by kernel_rfl) (by kernel_rfl) rfl rfl (ord_call (f := 135) (args := #[pageV p, .int .i64 38, .int .i64 2]) (by kernel_rfl) ?_ (fun _ W hS => (Hgl.out W).mono fun _ _ h => ⟨h.1, GtS.call hS h.2⟩)) ?_
  · intro _; go_simp
  (try simp only [Act.put, List.setIfInBounds_toArray, List.set_cons_zero, List.set_cons_succ])
  refine lin_step (i := 16) (d := some 30) (v := pageV p) rfl rfl (by kernel_rfl) (by kernel_rfl) rfl rfl (ord_page (by kernel_rfl) (.tmp 2) rfl rfl (fun _ _ hS => hS.1.page)) ?_
  (try simp only [Act.put, List.setIfInBounds_toArray, List.set_cons_zero, List.set_cons_succ])
  refine lin_step (i := 17) (d := some 31) (v := .int .i64 32) rfl rfl (by kernel_rfl) (by kernel_rfl) rfl rfl (ord_value (by kernel_rfl) ?_) ?_
  · (intro _ _ _; go_simp) <;> kernel_rfl
  (try simp only [Act.put, List.setIfInBounds_toArray, List.set_cons_zero, List.set_cons_succ])
  refine lin_step (i := 18) (d := some 32) (v := .int .i64 40) rfl rfl (by kernel_rfl) (by kernel_rfl) rfl rfl (ord_value (by kernel_rfl) ?_) ?_
  · (intro _ _ _; go_simp) <;> kernel_rfl
  (try simp only [Act.put, List.setIfInBounds_toArray, List.set_cons_zero, List.set_cons_succ])
  refine lin_step (i := 19) (d := some 33) (v := .int .i64 gs) rfl rfl (by kernel_rfl) (by kernel_rfl) rfl rfl (ord_call (f := 135) (args := #[pageV p, .int .i64 40, .int .i64 4]) (by kernel_rfl) ?_ (fun _ W hS => (Hgs.out W).mono fun _ _ h => ⟨h.1, GtS.call hS h.2⟩)) ?_
  · intro _; go_simp
  (try simp only [Act.put, List.setIfInBounds_toArray, List.set_cons_zero, List.set_cons_succ])
  refine lin_step (i := 20) (d := some 34) (v := pageV p) rfl rfl (by kernel_rfl) (by kernel_rfl) rfl rfl (ord_page (by kernel_rfl) (.tmp 2) rfl rfl (fun _ _ hS => hS.1.page)) ?_
  (try simp only [Act.put, List.setIfInBounds_toArray, List.set_cons_zero, List.set_cons_succ])
  refine lin_step (i := 21) (d := some 35) (v := .int .i64 32) rfl rfl (by kernel_rfl) (by kernel_rfl) rfl rfl (ord_value (by kernel_rfl) ?_) ?_
  · (intro _ _ _; go_simp) <;> kernel_rfl
  (try simp only [Act.put, List.setIfInBounds_toArray, List.set_cons_zero, List.set_cons_succ])
  refine lin_step (i := 22) (d := some 36) (v := .int .i64 52) rfl rfl (by kernel_rfl) (by kernel_rfl) rfl rfl (ord_value (by kernel_rfl) ?_) ?_
  · (intro _ _ _; go_simp) <;> kernel_rfl
  (try simp only [Act.put, List.setIfInBounds_toArray, List.set_cons_zero, List.set_cons_succ])
  refine lin_step (i := 23) (d := some 37) (v := .int .i64 ge) rfl rfl (by kernel_rfl) (by kernel_rfl) rfl rfl (ord_call (f := 135) (args := #[pageV p, .int .i64 52, .int .i64 2]) (by kernel_rfl) ?_ (fun _ W hS => (Hge.out W).mono fun _ _ h => ⟨h.1, GtS.call hS h.2⟩)) ?_
  · intro _; go_simp
  (try simp only [Act.put, List.setIfInBounds_toArray, List.set_cons_zero, List.set_cons_succ])
  refine lin_step (i := 24) (d := some 38) (v := pageV p) rfl rfl (by kernel_rfl) (by kernel_rfl) rfl rfl (ord_page (by kernel_rfl) (.tmp 2) rfl rfl (fun _ _ hS => hS.1.page)) ?_
  (try simp only [Act.put, List.setIfInBounds_toArray, List.set_cons_zero, List.set_cons_succ])
  refine lin_step (i := 25) (d := some 39) (v := .int .i64 32) rfl rfl (by kernel_rfl) (by kernel_rfl) rfl rfl (ord_value (by kernel_rfl) ?_) ?_
  · (intro _ _ _; go_simp) <;> kernel_rfl
  (try simp only [Act.put, List.setIfInBounds_toArray, List.set_cons_zero, List.set_cons_succ])
  refine lin_step (i := 26) (d := some 40) (v := .int .i64 54) rfl rfl (by kernel_rfl) (by kernel_rfl) rfl rfl (ord_value (by kernel_rfl) ?_) ?_
  · (intro _ _ _; go_simp) <;> kernel_rfl
  (try simp only [Act.put, List.setIfInBounds_toArray, List.set_cons_zero, List.set_cons_succ])
  refine lin_step (i := 27) (d := some 41) (v := .int .i64 gf) rfl rfl (by kernel_rfl) (by kernel_rfl) rfl rfl (ord_call (f := 135) (args := #[pageV p, .int .i64 54, .int .i64 2]) (by kernel_rfl) ?_ (fun _ W hS => (Hgf.out W).mono fun _ _ h => ⟨h.1, GtS.call hS h.2⟩)) ?_
  · intro _; go_simp
  (try simp only [Act.put, List.setIfInBounds_toArray, List.set_cons_zero, List.set_cons_succ])
  refine lin_step (i := 28) (d := some 42) (v := inoV y0) rfl rfl (by kernel_rfl) (by kernel_rfl) rfl rfl (ord_value (by kernel_rfl) ?_) ?_
  · (intro _ _ _; rw [HY.out]; go_simp) <;> rfl
  (try simp only [Act.put, List.setIfInBounds_toArray, List.set_cons_zero, List.set_cons_succ])
  refine lin_turn (i := 29) (d := some 6) (fun u s => ∃ g, w.heap.size + 1 < g ∧ u = .pointer (some ⟨g, 0, none⟩) ∧ s = some (g, false)) rfl rfl (by kernel_rfl) (by kernel_rfl) rfl (by kernel_rfl) (⟨_, _, w.heap.size + 2, by omega, rfl, rfl⟩) (by kernel_rfl) (fun W hS => gives_to (v := .pointer (some ⟨W.heap.size, 0, none⟩)) (w' := W.alloc (.cells (inoL Ii.zero).toArray 31)) (by go_simp; rfl) ⟨some (W.heap.size, false), ⟨W.heap.size, hS.1.out.lt, rfl, rfl⟩, GtS.alloc hS.1⟩) ?_
  rintro _ _ ⟨g, hg, rfl, rfl⟩
  (try simp only [Act.put, List.setIfInBounds_toArray, List.set_cons_zero, List.set_cons_succ])
  refine lin_turn (i := 30) (d := none) (fun u s => u = undef ∧ s = some (g, true)) rfl rfl (by kernel_rfl) (by kernel_rfl) rfl (by kernel_rfl) (⟨_, _, rfl, rfl⟩) (by kernel_rfl) (fun W hS => gives_store_row inoT hS.2.2 rfl rfl (inoL_one y0) (.tmp 6) (.tmp 42) rfl rfl rfl ⟨some (g, true), ⟨rfl, rfl⟩, GtS.put hS⟩) ?_
  rintro _ _ ⟨rfl, rfl⟩
  (try simp only [Act.put, List.setIfInBounds_toArray, List.set_cons_zero, List.set_cons_succ])
  refine lin_done (by kernel_rfl) ?_
  intro W2 hS
  have S2 : Hid (BxS w p W2) := Lib.hid hS.1
  have R2 : Hid (RowAt W2 g (inoL ⟨gk, gp, gu, gl, gs, 0, 0, 0, 0, ge, gf⟩)) := Lib.hid (by rw [← HY.out]; exact hS.2.2)
  have HG := Lib.hid hg
  clear hS S hg HY
  go_wp2_with fail
  go_loopw [43] (fun i wr => ∃ k : Nat, k ≤ 4 ∧ i = .int .i64 (k : Int) ∧ BxS w p wr ∧ RowAt wr g (inoL ⟨gk, gp, gu, gl, gs, if k < 1 then 0 else ga, if k < 2 then 0 else gb, if k < 3 then 0 else gc, if k < 4 then 0 else gd, ge, gf⟩)) (fun i _ => 4 - (intOf i).toNat)
  case atStart => exact ⟨0, by omega, rfl, S2.out, R2.out⟩
  case round =>
    clear S2 R2
    obtain ⟨k, hk, rfl, hS, hR⟩ := hrel
    have hk : k = 0 ∨ k = 1 ∨ k = 2 ∨ k = 3 ∨ k = 4 := by omega
    rcases hk with rfl | rfl | rfl | rfl | rfl
    · have S2 := Lib.hid hS
      have R2 : Hid (RowAt wr g (inoL ⟨gk, gp, gu, gl, gs, 0, 0, 0, 0, ge, gf⟩)) := Lib.hid hR
      clear hS hR
      go_wp2_with (first
        | (with_reducible refine wpList_load_page S2.out.page rfl (.tmp 2) rfl rfl ?_)
        | (go_at_call 135; refine (Hga.out _).mono ?_; rintro e w' ⟨rfl, hb⟩; replace R2 := Lib.hid (RowAt.step R2.out hb); replace S2 := Lib.hid (S2.out.call hb); clear hb; have hcc := R2.out.cell 5 _ rfl; have hff := R2.out.frozen 5 (show 5 < 11 by decide)))
      have R3 : Hid (RowAt (w'.setCell ⟨g, 5, none⟩ (.int .i64 ga)) g (inoL ⟨gk, gp, gu, gl, gs, ga, 0, 0, 0, ge, gf⟩)) := Lib.hid (RowAt.setOne R2.out 5 (.int .i64 ga) (show 5 < 11 by decide))
      have S3 := Lib.hid (S2.out.setOut g 5 (.int .i64 ga) HG.out)
      clear S2 R2
      go_roundw
      case rel => exact ⟨1, by omega, rfl, S3.out, R3.out⟩
      case measure => simp [intOf]
    · have S2 := Lib.hid hS
      have R2 : Hid (RowAt wr g (inoL ⟨gk, gp, gu, gl, gs, ga, 0, 0, 0, ge, gf⟩)) := Lib.hid hR
      clear hS hR
      go_wp2_with (first
        | (with_reducible refine wpList_load_page S2.out.page rfl (.tmp 2) rfl rfl ?_)
        | (go_at_call 135; refine (Hgb.out _).mono ?_; rintro e w' ⟨rfl, hb⟩; replace R2 := Lib.hid (RowAt.step R2.out hb); replace S2 := Lib.hid (S2.out.call hb); clear hb; have hcc := R2.out.cell 6 _ rfl; have hff := R2.out.frozen 6 (show 6 < 11 by decide)))
      have R3 : Hid (RowAt (w'.setCell ⟨g, 6, none⟩ (.int .i64 gb)) g (inoL ⟨gk, gp, gu, gl, gs, ga, gb, 0, 0, ge, gf⟩)) := Lib.hid (RowAt.setOne R2.out 6 (.int .i64 gb) (show 6 < 11 by decide))
      have S3 := Lib.hid (S2.out.setOut g 6 (.int .i64 gb) HG.out)
      clear S2 R2
      go_roundw
      case rel => exact ⟨2, by omega, rfl, S3.out, R3.out⟩
      case measure => simp [intOf]
    · have S2 := Lib.hid hS
      have R2 : Hid (RowAt wr g (inoL ⟨gk, gp, gu, gl, gs, ga, gb, 0, 0, ge, gf⟩)) := Lib.hid hR
      clear hS hR
      go_wp2_with (first
        | (with_reducible refine wpList_load_page S2.out.page rfl (.tmp 2) rfl rfl ?_)
        | (go_at_call 135; refine (Hgc.out _).mono ?_; rintro e w' ⟨rfl, hb⟩; replace R2 := Lib.hid (RowAt.step R2.out hb); replace S2 := Lib.hid (S2.out.call hb); clear hb; have hcc := R2.out.cell 7 _ rfl; have hff := R2.out.frozen 7 (show 7 < 11 by decide)))
      have R3 : Hid (RowAt (w'.setCell ⟨g, 7, none⟩ (.int .i64 gc)) g (inoL ⟨gk, gp, gu, gl, gs, ga, gb, gc, 0, ge, gf⟩)) := Lib.hid (RowAt.setOne R2.out 7 (.int .i64 gc) (show 7 < 11 by decide))
      have S3 := Lib.hid (S2.out.setOut g 7 (.int .i64 gc) HG.out)
      clear S2 R2
      go_roundw
      case rel => exact ⟨3, by omega, rfl, S3.out, R3.out⟩
      case measure => simp [intOf]
    · have S2 := Lib.hid hS
      have R2 : Hid (RowAt wr g (inoL ⟨gk, gp, gu, gl, gs, ga, gb, gc, 0, ge, gf⟩)) := Lib.hid hR
      clear hS hR
      go_wp2_with (first
        | (with_reducible refine wpList_load_page S2.out.page rfl (.tmp 2) rfl rfl ?_)
        | (go_at_call 135; refine (Hgd.out _).mono ?_; rintro e w' ⟨rfl, hb⟩; replace R2 := Lib.hid (RowAt.step R2.out hb); replace S2 := Lib.hid (S2.out.call hb); clear hb; have hcc := R2.out.cell 8 _ rfl; have hff := R2.out.frozen 8 (show 8 < 11 by decide)))
      have R3 : Hid (RowAt (w'.setCell ⟨g, 8, none⟩ (.int .i64 gd)) g (inoL ⟨gk, gp, gu, gl, gs, ga, gb, gc, gd, ge, gf⟩)) := Lib.hid (RowAt.setOne R2.out 8 (.int .i64 gd) (show 8 < 11 by decide))
      have S3 := Lib.hid (S2.out.setOut g 8 (.int .i64 gd) HG.out)
      clear S2 R2
      go_roundw
      case rel => exact ⟨4, by omega, rfl, S3.out, R3.out⟩
      case measure => simp [intOf]
    · have S2 := Lib.hid hS
      have R2 : Hid (RowAt wr g (inoL ⟨gk, gp, gu, gl, gs, ga, gb, gc, gd, ge, gf⟩)) := Lib.hid hR
      clear hS hR
      go_wp2_with (first
        | (with_reducible refine wpList_load_rw inoT R2.out rfl rfl (.tmp 6) rfl rfl ?_)
        | ((with_reducible refine wpList_store_rw inoT (vs := inoL ⟨gk, gp, gu, gl, gs, ga, gb, gc, gd, ge, gf⟩) S2.out.out rfl rfl (inoL_one _) rfl (.tmp 4) (.tmp 57) rfl rfl ?_ ?_); (exact rfl)))
      exact bodyPost_ret (results_row1 inoT _ 4 rfl _ (S2.out.back _).1 rfl rfl) rfl ⟨rfl, (S2.out.back _).2⟩
end Go.Proofs.YtncmihikpcdgoaaGreat

namespace Go.Proofs.YtncmihikpcdgoaaGreat
open Dk (zeros zeros_length)
open Go.RowKit
open Ii (Ino)
set_option maxRecDepth 100000 in
set_option maxHeartbeats 1000000 in
theorem counts_any (x : Ino) (w : World) :
    Calls Tryz.prog 123 #[inoV x] w fun e w' => e = .returned (.bool (Ii.cntB x)) ∧ Below w.heap.size w w' := by
  have HE : Ii.cntB x = (decide (0 ≤ x.p ∧ x.p ≤ 511) && (decide (0 ≤ x.u ∧ x.u ≤ 65535) && (decide (0 ≤ x.l ∧ x.l ≤ 40) && decide (0 ≤ x.s ∧ x.s ≤ 67840)))) := by
    unfold Ii.cntB
    simp only [Bool.decide_and, Bool.and_assoc]
  rw [HE]
  clear HE
  have H1 := Lib.hid (fun w => upTo_any 511 x.p w)
  have H2 := Lib.hid (fun w => upTo_any 65535 x.u w)
  have H3 := Lib.hid (fun w => upTo_any 40 x.l w)
  have H4 := Lib.hid (fun w => upTo_any 67840 x.s w)
  generalize decide (0 ≤ x.p ∧ x.p ≤ 511) = b1 at H1 ⊢
  generalize decide (0 ≤ x.u ∧ x.u ≤ 65535) = b2 at H2 ⊢
  generalize decide (0 ≤ x.l ∧ x.l ≤ 40) = b3 at H3 ⊢
  generalize decide (0 ≤ x.s ∧ x.s ≤ 67840) = b4 at H4 ⊢
  have hrow := rowAt_new w (inoL x) 31
  have hbel : Below w.heap.size w (w.alloc (.cells (inoL x).toArray 31)) := (Below.refl _ _).alloc (Nat.le_refl _) _
  rcases (by cases b1 <;> cases b2 <;> cases b3 <;> simp : b1 = false ∨ (b1 = true ∧ b2 = false) ∨ (b1 = true ∧ b2 = true ∧ b3 = false) ∨ (b1 = true ∧ b2 = true ∧ b3 = true)) with rfl | ⟨rfl, rfl⟩ | ⟨rfl, rfl, rfl⟩ | ⟨rfl, rfl, rfl⟩
  all_goals
    simp only [Bool.false_and, Bool.true_and]
    unfold inoV
    go_enter Tryz.func123, Tryz.ntmps123
    go_wp2_with fail
    generalize hw : w.alloc _ = w1
    have HB : Hid (Below w.heap.size w w1) := Lib.hid (by rw [← hw]; exact hbel)
    have hr : RowAt w1 w.heap.size (inoL x) := by rw [← hw]; exact hrow
    have hc1 := hr.cell 1 _ rfl
    have hc2 := hr.cell 2 _ rfl
    have hc3 := hr.cell 3 _ rfl
    have hc4 := hr.cell 4 _ rfl
    clear hw hrow hbel hr
    go_wp2_with (first
      | (go_at_call 148; (with_reducible refine (H1.out _).mono ?_); rintro e w' ⟨rfl, rfl⟩)
      | (go_at_call 148; (with_reducible refine (H2.out _).mono ?_); rintro e w' ⟨rfl, rfl⟩)
      | (go_at_call 148; (with_reducible refine (H3.out _).mono ?_); rintro e w' ⟨rfl, rfl⟩)
      | (go_at_call 148; (with_reducible refine (H4.out _).mono ?_); rintro e w' ⟨rfl, rfl⟩))
    go_ret
    exact ⟨rfl, HB.out⟩
/-- are the first of the four right? -/
def firstB (p i : Int) (x : Ino) : Nat → Bool
  | 0 => true
  | k + 1 => firstB p i x k && Ii.numB p i (x.dir k)
set_option maxRecDepth 100000 in
theorem numsB_is (p i : Int) (x : Ino) : Ii.numsB p i x = (firstB p i x 4 && (Ii.numB p i x.e && Ii.numB p i x.f)) := by
  unfold Ii.numsB firstB firstB firstB firstB firstB
  simp only [Ii.Ino.dir, Bool.true_and, Bool.and_assoc]
set_option maxRecDepth 100000 in
theorem first_no (p i : Int) (x : Ino) (k : Nat) (hk : k < 4) (h : Ii.numB p i (x.dir k) = false) : Ii.numsB p i x = false := by
  rw [numsB_is]
  have : k = 0 ∨ k = 1 ∨ k = 2 ∨ k = 3 := by omega
  rcases this with rfl | rfl | rfl | rfl <;> (unfold firstB firstB firstB firstB firstB; rw [h]; simp)
/-- what stands in memory: the inode, the plan -/
structure NrS (w0 : World) (x : Ino) (vs : List Value) (W : World) : Prop where
  ino : RowAt W w0.heap.size (inoL x)
  plan : RowAt W (w0.heap.size + 1) vs
  below : Below w0.heap.size w0 W
set_option maxRecDepth 100000 in
theorem NrS.call {w0 : World} {x : Ino} {v : Value} {vs : List Value} {W W' : World} (k : NrS w0 x (v :: vs) W) (hb : Below W.heap.size W W') : NrS w0 x (v :: vs) W' :=
  ⟨RowAt.step k.ino hb, RowAt.step k.plan hb, k.below.trans (hb.mono k.below.size)⟩
set_option maxRecDepth 100000 in
theorem NrS.drew {w0 : World} {x : Ino} {vs : List Value} {W : World} (k : NrS w0 x vs W) : NrS w0 x vs W.drew := ⟨k.ino.drew, k.plan.drew, k.below.drew⟩
set_option maxRecDepth 100000 in
theorem nrS_box (w : World) (x : Ino) (vs : List Value) (t u : TypeId) : NrS w x vs ((w.alloc (.cells (inoL x).toArray t)).alloc (.cells vs.toArray u)) where
  ino := (rowAt_new w (inoL x) t).alloc _
  plan := by
    have h := rowAt_new (w.alloc (.cells (inoL x).toArray t)) vs u
    rw [World.size_alloc] at h
    exact h
  below := ((Below.refl _ _).alloc (Nat.le_refl _) _).alloc (by simp) _
set_option maxRecDepth 100000 in
set_option maxHeartbeats 2000000 in
theorem numbers_any (p i : Int) (x : Ino) (w : World) (h : Pl.rightB p i = true) :
    Calls Tryz.prog 124 #[inoV x, planV p i] w fun e w' => e = .returned (.bool (Ii.numsB p i x)) ∧ Below w.heap.size w w' := by
  have HN : Hid (∀ n w, Calls Tryz.prog 149 #[.int .i64 n, .agg (planL p i).toArray] w fun e w' => e = .returned (.bool (Ii.numB p i n)) ∧ Below w.heap.size w w') := Lib.hid (fun n w => numberRight_any p i n w h)
  have HS := Lib.hid (nrS_box w x (planL p i) 31 63)
  clear h
  unfold inoV planV
  go_enter Tryz.func124, Tryz.ntmps124
  go_wp2_with fail
  generalize hw : (w.alloc _).alloc _ = w1
  have S : Hid (NrS w x (planL p i) w1) := Lib.hid (by rw [← hw]; exact HS.out)
  clear hw HS
  go_wp2_with (with_reducible refine wpList_load_four S.out.ino rfl (.tmp 7) rfl rfl ?_)
  go_loopw [9] (fun n wr => ∃ k : Nat, k ≤ 4 ∧ n = .int .i64 (k : Int) ∧ Hid (firstB p i x k = true) ∧ NrS w x (planL p i) wr) (fun n _ => 4 - (intOf n).toNat)
  case atStart => exact ⟨0, by omega, rfl, Lib.hid rfl, S.out⟩
  case round =>
    clear S
    obtain ⟨k, hk, rfl, HF, hS⟩ := hrel
    have S := Lib.hid hS
    clear hS
    have hk : k = 0 ∨ k = 1 ∨ k = 2 ∨ k = 3 ∨ k = 4 := by omega
    rcases hk with rfl | rfl | rfl | rfl | rfl
    · have hix := fun W => index_four0 x W
      have H5 := Lib.hid (fun w => HN.out x.a w)
      cases hb5 : Ii.numB p i x.a with
      | false =>
        have HE := Lib.hid (first_no p i x 0 (by omega) hb5)
        rw [hb5] at H5
        clear hb5 HN HF
        go_wp2_with (first
          | (with_reducible refine wpList_load_rw planT S.out.plan rfl rfl (.tmp 3) rfl rfl ?_)
          | (go_at_call 149; (with_reducible refine (H5.out _).mono ?_); rintro e w' ⟨rfl, hb⟩; replace S := Lib.hid (S.out.call hb); clear hb))
        go_ret
        exact ⟨by rw [HE.out]; rfl, S.out.below⟩
      | true =>
        have HF2 : Hid (firstB p i x 1 = true) := Lib.hid (by
          unfold firstB
          rw [HF.out]
          exact hb5)
        rw [hb5] at H5
        clear hb5 HN HF
        go_wp2_with (first
          | (with_reducible refine wpList_load_rw planT S.out.plan rfl rfl (.tmp 3) rfl rfl ?_)
          | (go_at_call 149; (with_reducible refine (H5.out _).mono ?_); rintro e w' ⟨rfl, hb⟩; replace S := Lib.hid (S.out.call hb); clear hb))
        go_roundw
        case rel => exact ⟨1, by omega, rfl, HF2, S.out⟩
        case measure => simp [intOf]
    · have hix := fun W => index_four1 x W
      have H5 := Lib.hid (fun w => HN.out x.b w)
      cases hb5 : Ii.numB p i x.b with
      | false =>
        have HE := Lib.hid (first_no p i x 1 (by omega) hb5)
        rw [hb5] at H5
        clear hb5 HN HF
        go_wp2_with (first
          | (with_reducible refine wpList_load_rw planT S.out.plan rfl rfl (.tmp 3) rfl rfl ?_)
          | (go_at_call 149; (with_reducible refine (H5.out _).mono ?_); rintro e w' ⟨rfl, hb⟩; replace S := Lib.hid (S.out.call hb); clear hb))
        go_ret
        exact ⟨by rw [HE.out]; rfl, S.out.below⟩
      | true =>
        have HF2 : Hid (firstB p i x 2 = true) := Lib.hid (by
          unfold firstB
          rw [HF.out]
          exact hb5)
        rw [hb5] at H5
        clear hb5 HN HF
        go_wp2_with (first
          | (with_reducible refine wpList_load_rw planT S.out.plan rfl rfl (.tmp 3) rfl rfl ?_)
          | (go_at_call 149; (with_reducible refine (H5.out _).mono ?_); rintro e w' ⟨rfl, hb⟩; replace S := Lib.hid (S.out.call hb); clear hb))
        go_roundw
        case rel => exact ⟨2, by omega, rfl, HF2, S.out⟩
        case measure => simp [intOf]
    · have hix := fun W => index_four2 x W
      have H5 := Lib.hid (fun w => HN.out x.c w)
      cases hb5 : Ii.numB p i x.c with
      | false =>
        have HE := Lib.hid (first_no p i x 2 (by omega) hb5)
        rw [hb5] at H5
        clear hb5 HN HF
        go_wp2_with (first
          | (with_reducible refine wpList_load_rw planT S.out.plan rfl rfl (.tmp 3) rfl rfl ?_)
          | (go_at_call 149; (with_reducible refine (H5.out _).mono ?_); rintro e w' ⟨rfl, hb⟩; replace S := Lib.hid (S.out.call hb); clear hb))
        go_ret
        exact ⟨by rw [HE.out]; rfl, S.out.below⟩
      | true =>
        have HF2 : Hid (firstB p i x 3 = true) := Lib.hid (by
          unfold firstB
          rw [HF.out]
          exact hb5)
        rw [hb5] at H5
        clear hb5 HN HF
        go_wp2_with (first
          | (with_reducible refine wpList_load_rw planT S.out.plan rfl rfl (.tmp 3) rfl rfl ?_)
          | (go_at_call 149; (with_reducible refine (H5.out _).mono ?_); rintro e w' ⟨rfl, hb⟩; replace S := Lib.hid (S.out.call hb); clear hb))
        go_roundw
        case rel => exact ⟨3, by omega, rfl, HF2, S.out⟩
        case measure => simp [intOf]
    · have hix := fun W => index_four3 x W
      have H5 := Lib.hid (fun w => HN.out x.d w)
      cases hb5 : Ii.numB p i x.d with
      | false =>
        have HE := Lib.hid (first_no p i x 3 (by omega) hb5)
        rw [hb5] at H5
        clear hb5 HN HF
        go_wp2_with (first
          | (with_reducible refine wpList_load_rw planT S.out.plan rfl rfl (.tmp 3) rfl rfl ?_)
          | (go_at_call 149; (with_reducible refine (H5.out _).mono ?_); rintro e w' ⟨rfl, hb⟩; replace S := Lib.hid (S.out.call hb); clear hb))
        go_ret
        exact ⟨by rw [HE.out]; rfl, S.out.below⟩
      | true =>
        have HF2 : Hid (firstB p i x 4 = true) := Lib.hid (by
          unfold firstB
          rw [HF.out]
          exact hb5)
        rw [hb5] at H5
        clear hb5 HN HF
        go_wp2_with (first
          | (with_reducible refine wpList_load_rw planT S.out.plan rfl rfl (.tmp 3) rfl rfl ?_)
          | (go_at_call 149; (with_reducible refine (H5.out _).mono ?_); rintro e w' ⟨rfl, hb⟩; replace S := Lib.hid (S.out.call hb); clear hb))
        go_roundw
        case rel => exact ⟨4, by omega, rfl, HF2, S.out⟩
        case measure => simp [intOf]
    · have HE : Hid (Ii.numsB p i x = (Ii.numB p i x.e && Ii.numB p i x.f)) := Lib.hid (by rw [numsB_is, HF.out, Bool.true_and])
      have H5 := Lib.hid (fun w => HN.out x.e w)
      have H6 : Hid (∀ w, Calls Tryz.prog 149 #[.int .i64 x.f, .agg #[.int .i64 p, .int .i64 i]] w fun e w' => e = .returned (.bool (Ii.numB p i x.f)) ∧ Below w.heap.size w w') := Lib.hid (fun w => HN.out x.f w)
      generalize Ii.numB p i x.e = b5 at H5 HE
      generalize Ii.numB p i x.f = b6 at H6 HE
      clear HN HF
      have hc9 := S.out.ino.cell 9 _ rfl
      cases b5
      all_goals
        go_wp2_with (first
          | (with_reducible refine wpList_load_rw planT S.out.plan rfl rfl (.tmp 3) rfl rfl ?_)
          | ((with_reducible refine wpList_loadg_row planT S.out.plan rfl (.tmp 3) rfl rfl ?_ ?_); (exact rfl))
          | (go_at_call 149; (with_reducible refine (H5.out _).mono ?_); rintro e w' ⟨rfl, hb⟩; clear hc9; replace S := Lib.hid (S.out.call hb); have hc10 := S.out.ino.cell 10 _ rfl; clear hb)
          | (go_at_call 149; (with_reducible refine (H6.out _).mono ?_); rintro e w' ⟨rfl, hb⟩; replace S := Lib.hid (S.out.call hb); clear hb))
        go_ret
        exact ⟨by rw [HE.out]; rfl, S.out.below⟩
end Go.Proofs.YtncmihikpcdgoaaGreat

namespace Go.Proofs.YtncmihikpcdgoaaGreat
open Go.RowKit Go.Maps
open Dk (zeros zeros_length)
open Ii (Ino)
/-- rows that were made since w0; of what lay there only L was written -/
structure Lo (L : List Nat) (w0 : World) (l : List (Nat × List Value)) (w : World) : Prop where
  row : ∀ x ∈ l, RowAt w x.1 x.2 ∧ w0.heap.size ≤ x.1 ∧ x.1 < w.heap.size
  ne : (l.map (·.1)).Nodup
  only : Only L w0 w
  low : ∀ k ∈ L, k < w0.heap.size
theorem Lo.get {L : List Nat} {w0 w : World} {l : List (Nat × List Value)} (h : Lo L w0 l w) (k : Nat) (x : Nat × List Value) (hx : l[k]? = some x) : RowAt w x.1 x.2 := (h.row x (List.mem_of_getElem? hx)).1
theorem Lo.lt {L : List Nat} {w0 w : World} {l : List (Nat × List Value)} (h : Lo L w0 l w) (k : Nat) (x : Nat × List Value) (hx : l[k]? = some x) : x.1 < w.heap.size := (h.row x (List.mem_of_getElem? hx)).2.2
theorem Lo.ge {L : List Nat} {w0 w : World} {l : List (Nat × List Value)} (h : Lo L w0 l w) (k : Nat) (x : Nat × List Value) (hx : l[k]? = some x) : w0.heap.size ≤ x.1 := (h.row x (List.mem_of_getElem? hx)).2.1
theorem Lo.start {L : List Nat} (w : World) (hL : ∀ k ∈ L, k < w.heap.size) : Lo L w [] w := ⟨fun x hx => (by cases hx), List.nodup_nil, Only.refl L w, hL⟩
theorem Lo.none {L : List Nat} {w0 w : World} (h : Only L w0 w) (hL : ∀ k ∈ L, k < w0.heap.size) : Lo L w0 [] w := ⟨fun x hx => (by cases hx), List.nodup_nil, h, hL⟩
theorem Lo.fresh {L : List Nat} {w0 w : World} {l : List (Nat × List Value)} (h : Lo L w0 l w) {B : Nat} (hB : w.heap.size ≤ B) : ((l ++ [(B, ([] : List Value))]).map (·.1)).Nodup := by
  rw [List.map_append, List.nodup_append]
  refine ⟨h.ne, by simp, fun a ha c hc => ?_⟩
  obtain ⟨x, hx, rfl⟩ := List.mem_map.1 ha
  simp at hc
  have := (h.row x hx).2.2
  omega
theorem Lo.alloc {L : List Nat} {w0 w : World} {l : List (Nat × List Value)} (h : Lo L w0 l w) (B : Nat) (hB : w.heap.size = B) (vs : List Value) (t : TypeId) : Lo L w0 (l ++ [(B, vs)]) (w.alloc (.cells vs.toArray t)) := by
 subst hB
 exact {
  row := fun x hx => by
    rcases List.mem_append.1 hx with hx | hx
    · obtain ⟨h1, h2, h3⟩ := h.row x hx
      exact ⟨h1.alloc _, h2, by simp; omega⟩
    · rw [List.mem_singleton] at hx
      subst hx
      exact ⟨rowAt_new w vs t, h.only.size, by simp⟩
  ne := by
    have := h.fresh (Nat.le_refl w.heap.size)
    simpa using this
  only := h.only.alloc _
  low := h.low }
/-- an allocation whose row is not looked at -/
theorem Lo.skip {L : List Nat} {w0 w : World} {l : List (Nat × List Value)} (h : Lo L w0 l w) (o : Obj) : Lo L w0 l (w.alloc o) where
  row := fun x hx => by
    obtain ⟨h1, h2, h3⟩ := h.row x hx
    exact ⟨h1.alloc _, h2, by simp; omega⟩
  ne := h.ne
  only := h.only.alloc _
  low := h.low
theorem Lo.call {L L' : List Nat} {w0 w w' : World} {l : List (Nat × List Value)} (h : Lo L w0 l w) (ho : Only L' w w') (hL : ∀ k ∈ L', k ∈ L) : Lo L w0 l w' where
  row := fun x hx => by
    obtain ⟨h1, h2, h3⟩ := h.row x hx
    refine ⟨h1.block (ho.block _ h3 (fun q => ?_)), h2, Nat.lt_of_lt_of_le h3 ho.size⟩
    have := h.low _ (hL _ q)
    omega
  ne := h.ne
  only := h.only.via ho (fun i hi => Or.inl (hL i hi))
  low := h.low
theorem Lo.below {L : List Nat} {w0 w w' : World} {l : List (Nat × List Value)} (h : Lo L w0 l w) (hb : Below w.heap.size w w') : Lo L w0 l w' :=
  h.call (L' := []) (Only.below hb) (fun k hk => by cases hk)
theorem Lo.drewN {L : List Nat} {w0 w : World} {l : List (Nat × List Value)} (h : Lo L w0 l w) (n : Nat) : Lo L w0 l (w.drewN n) := h.below (below_drewN _ _)
theorem Lo.drew {L : List Nat} {w0 w : World} {l : List (Nat × List Value)} (h : Lo L w0 l w) : Lo L w0 l w.drew := h.below ((Below.refl _ _).drew)
/-- a row that was made and stored into at once -/
theorem Lo.made {L : List Nat} {w0 w W2 : World} {l : List (Nat × List Value)} {vs : List Value} (h : Lo L w0 l w) (hR : RowAt W2 w.heap.size vs) (hb : Below w.heap.size w W2) (hz : W2.heap.size = w.heap.size + 1) : Lo L w0 (l ++ [(w.heap.size, vs)]) W2 where
  row := fun x hx => by
    rcases List.mem_append.1 hx with hx | hx
    · exact (h.below hb).row x hx
    · rw [List.mem_singleton] at hx
      subst hx
      exact ⟨hR, h.only.size, by rw [hz]; exact Nat.lt_succ_self _⟩
  ne := by
    have := h.fresh (Nat.le_refl w.heap.size)
    simpa using this
  only := (h.below hb).only
  low := h.low
theorem Lo.madeB {L : List Nat} {w0 w W2 : World} {l : List (Nat × List Value)} {vs : List Value} (h : Lo L w0 l w) (B : Nat) (hB : w.heap.size = B) (hR : RowAt W2 w.heap.size vs) (hb : Below w.heap.size w W2) (hz : W2.heap.size = w.heap.size + 1) : Lo L w0 (l ++ [(B, vs)]) W2 := by
  subst hB
  exact h.made hR hb hz
/-- a row is written whole -/
theorem Lo.put {L : List Nat} {w0 w : World} {l : List (Nat × List Value)} (h : Lo L w0 l w) (k : Nat) (x : Nat × List Value) (hx : l[k]? = some x) (us : List Value) (hl : us.length = x.2.length) : Lo L w0 (l.set k (x.1, us)) (w.setCells x.1 0 us) where
  row := fun y hy => by
    obtain ⟨hk, hke⟩ := List.getElem?_eq_some_iff.1 hx
    obtain ⟨j, hj, rfl⟩ := List.getElem_of_mem hy
    rw [List.length_set] at hj
    rw [List.getElem_set, heap_setCells]
    by_cases e : k = j
    · subst e
      rw [if_pos rfl]
      obtain ⟨h1, h2, h3⟩ := h.row x (List.mem_of_getElem? hx)
      exact ⟨h1.put us hl, h2, h3⟩
    · rw [if_neg e]
      obtain ⟨h1, h2, h3⟩ := h.row l[j] (List.getElem_mem hj)
      refine ⟨h1.put_other _ _ _ (fun q => ?_), h2, h3⟩
      have hn := List.pairwise_iff_getElem.1 h.ne
      have e1 : (l.map (·.1))[k]'(by simpa using hk) = (l.map (·.1))[j]'(by simpa using hj) := by
        simp only [List.getElem_map]
        rw [hke]; exact q.symm
      rcases Nat.lt_or_ge k j with c | c
      · exact absurd e1 (hn k j _ _ c)
      · exact absurd e1.symm (hn j k _ _ (by omega))
  ne := by
    obtain ⟨hk, hke⟩ := List.getElem?_eq_some_iff.1 hx
    have : (l.set k (x.1, us)).map (·.1) = l.map (·.1) := by
      rw [List.map_set]
      apply List.ext_getElem
      · simp
      · intro j h1 h2
        rw [List.getElem_set]
        split
        · rename_i e; subst e; simp [hke]
        · rfl
    rw [this]; exact h.ne
  only := by
    obtain ⟨h1, h2, h3⟩ := h.row x (List.mem_of_getElem? hx)
    exact h.only.via ((Only.refl [x.1] w).setCells x.1 (by simp) us 0 w) (fun i hi => by rw [List.mem_singleton] at hi; subst hi; exact Or.inr h2)
  low := h.low
theorem Lo.cut {L : List Nat} {w0 w : World} {l : List (Nat × List Value)} (h : Lo L w0 l w) (k : Nat) : Lo L w0 (l.take k) w where
  row := fun x hx => h.row x (List.mem_of_mem_take hx)
  ne := by
    rw [List.map_take]
    exact h.ne.sublist (List.take_sublist _ _)
  only := h.only
  low := h.low
theorem RowAt.page {w : World} {b : Nat} {p : List UInt8} (h : RowAt w b (byteVals p)) (hp : p.length = 64) : PageAt w b p := ⟨hp, h.range, by have := h.free; rwa [byteVals_length, hp] at this⟩
theorem PageAt.rowAt {w : World} {b : Nat} {p : List UInt8} (h : PageAt w b p) : RowAt w b (byteVals p) := ⟨h.range, by rw [byteVals_length, h.len]; exact h.free⟩
theorem Lo.ctx {L : List Nat} {w0 w : World} {l : List (Nat × List Value)} {B : Nat} {b : Blk} {s : Sto} {n I : Int} (h : Lo [] w0 l w) (c : Ctx w0 B b s n I) : Ctx w B b s n I := c.only h.only (by simp) (by simp)
theorem Lo.bel {w0 w : World} {l : List (Nat × List Value)} (h : Lo [] w0 l w) : Below w0.heap.size w0 w := ⟨h.only.os, h.only.tape, h.only.output, h.only.size, fun k hk => h.only.block k hk (by simp)⟩
theorem Lo.store {w0 w : World} {l : List (Nat × List Value)} {b : Blk} {s : Sto} (h : Lo [] w0 l w) (c : StoreAt w0 b s) : StoreAt w b s := c.only h.only (by simp)
/-- a plan in the midst of a row -/
theorem RowAt.plan {w : World} {B st : Nat} {n I : Int} {vs : List Value} (h : RowAt w B (.pointer (some ⟨st, 0, none⟩) :: .int .i64 n :: .int .i64 I :: vs)) : w.rangeAt B 1 (planL n I) := by
  intro j v hv
  have h2 : (Value.pointer (some ⟨st, 0, none⟩) :: Value.int .i64 n :: Value.int .i64 I :: vs)[1 + j]? = some v := by
    match j, hv with
    | 0, hv => exact hv
    | 1, hv => exact hv
    | n + 2, hv => simp [planL] at hv
  have := h.range (1 + j) v h2
  rwa [Nat.zero_add] at this
theorem RowAt.base {w : World} {B st : Nat} {n I : Int} {vs : List Value} (h : RowAt w B (.pointer (some ⟨st, 0, none⟩) :: .int .i64 n :: .int .i64 I :: vs)) : w.rangeAt B 0 (baseL st n I) := by
  intro j v hv
  have h2 : (Value.pointer (some ⟨st, 0, none⟩) :: Value.int .i64 n :: Value.int .i64 I :: vs)[j]? = some v := by
    match j, hv with
    | 0, hv => exact hv
    | 1, hv => exact hv
    | 2, hv => exact hv
    | n + 3, hv => simp [baseL] at hv
  have := h.range j v h2
  rwa [Nat.zero_add] at this ⊢
set_option maxRecDepth 100000 in
theorem wpList_load_plan {ops : Array Oper} {rest : List Oper} {op : Oper} {a : Act} {Q : Exit → Act → World → Prop} {w : World} {B o : Nat} {n I : Int} (k : w.rangeAt B o (planL n I)) (hgd : op.guard = none) (u : Operand) (ho : op.op = .load 63 u)
    (hx : a.eval u = .pointer (some ⟨B, o, none⟩)) (hn : wpList Tryz.prog ops Q rest (a.put op.dst (planV n I)) w) : wpList Tryz.prog ops Q (op :: rest) a w :=
  wpList_load_mid hgd 63 u ho B o hx _ _ k Tryz.underlying63 rfl (by kernel_rfl) hn
set_option maxRecDepth 100000 in
theorem wpList_load_base {ops : Array Oper} {rest : List Oper} {op : Oper} {a : Act} {Q : Exit → Act → World → Prop} {w : World} {B o st : Nat} {n I : Int} (k : w.rangeAt B o (baseL st n I)) (hgd : op.guard = none) (u : Operand) (ho : op.op = .load 77 u)
    (hx : a.eval u = .pointer (some ⟨B, o, none⟩)) (hn : wpList Tryz.prog ops Q rest (a.put op.dst (baseV st n I)) w) : wpList Tryz.prog ops Q (op :: rest) a w :=
  wpList_load_mid hgd 77 u ho B o hx _ _ k Tryz.underlying77 rfl (by kernel_rfl) hn
/-- what a function hands back beside an error -/
def exV {α : Type} (f : α → Value) (z : Value) : Except Int α → Value
  | .ok a => .tuple #[f a, .int .i64 0]
  | .error e => .tuple #[z, .int .i64 e]
theorem iget_any (p : List UInt8) (i : Int) (w : World) (hp : p.length = 64) : Calls Tryz.prog 109 #[pageV p, .int .i64 ((i - 1) % 2)] w fun e w' => e = .returned (inoV (Ii.getI p (Fs.halfAt i))) ∧ Below w.heap.size w w' := by
  unfold Fs.halfAt
  have : (i - 1) % 2 = 0 ∨ (i - 1) % 2 = 1 := by omega
  rcases this with e | e <;> rw [e]
  · exact iget_0 p w hp
  · exact iget_1 p w hp
theorem iput_any (p : List UInt8) (i : Int) (x : Ino) (w : World) (hp : p.length = 64) : Calls Tryz.prog 88 #[pageV p, .int .i64 ((i - 1) % 2), inoV x] w fun e w' => e = .returned (pageV (Ii.putN p (Fs.halfAt i) x)) ∧ Below w.heap.size w w' := by
  unfold Fs.halfAt
  have : (i - 1) % 2 = 0 ∨ (i - 1) % 2 = 1 := by omega
  rcases this with e | e <;> rw [e]
  · exact put_0 p x w hp
  · exact put_1 p x w hp
end Go.Proofs.YtncmihikpcdgoaaGreat

namespace Go.Proofs.YtncmihikpcdgoaaGreat
open Go.RowKit Go.Maps
open Dk (zeros zeros_length)
open Ii (Ino)
theorem base_box (w : World) (st : Nat) (n I : Int) : Lo [] w [(w.heap.size, baseL st n I)] (w.alloc (.cells #[.pointer (some ⟨st, 0, none⟩), .int .i64 n, .int .i64 I] 77)) :=
  (Lo.start w (by simp)).alloc _ rfl (baseL st n I) _
theorem tbl_ok {s : Sto} {n I i : Int} (h : Vs s n I) (h1 : 1 ≤ i) (h2 : i ≤ I) : okP n (43 + (i - 1) / 2) ∧ (43 + (i - 1) / 2).toNat = Fs.tbl i := by
  obtain ⟨b1, b2, b3, b4, b5, b6⟩ := h.bd
  unfold Pl.dataN at b4
  exact ⟨⟨by omega, by omega, by omega⟩, rfl⟩
set_option maxRecDepth 100000 in
set_option maxHeartbeats 1000000 in
theorem binode_no {w : World} {b : Blk} {s : Sto} {n I : Int} (v : Vs s n I) (i : Int) (h0 : i < 1 ∨ I < i) : Calls Tryz.prog 69 #[baseV b.s n I, .int .i64 i] w fun e w' => e = .returned (.tuple #[inoV Ii.zero, .int .i64 22]) ∧ Below w.heap.size w w' := by
  have S := Lib.hid ((base_box w b.s n I).alloc (w.heap.size + 1) (by simp) (inoL Ii.zero) 31)
  have HP : Hid (∀ w, Calls Tryz.prog 86 #[.agg #[.int .i64 n, .int .i64 I], .int .i64 i] w fun e w' => e = .returned (.tuple #[.int .i64 0, .int .i64 0]) ∧ Below w.heap.size w w') := Lib.hid (fun w => place_no n I i w v.pl h0)
  clear v h0
  unfold baseV
  go_enter Tryz.func69, Tryz.ntmps69
  go_wp2_with (first
    | (go_at_call 86; (with_reducible refine (HP.out _).mono ?_); rintro e w1 ⟨rfl, hb⟩; replace S := Lib.hid (S.out.below hb); clear hb)
    | ((with_reducible refine wpList_store_rw (vs := inoL Ii.zero) inoT (S.out.get 1 _ rfl) ?_ ?_ (inoL_one _) rfl (.tmp 4) (.tmp 20) rfl ?_ ?_ ?_); (exact rfl); (exact rfl); (exact rfl); (exact rfl)))
  have S2 := Lib.hid (S.out.put 1 _ rfl (inoL Ii.zero) rfl)
  exact bodyPost_ret (results_row2 inoT _ 4 5 rfl _ (S2.out.get 1 _ rfl) rfl rfl rfl) rfl ⟨rfl, S2.out.bel⟩
set_option maxRecDepth 100000 in
set_option maxHeartbeats 2000000 in
theorem binode_yes {w : World} {b : Blk} {s : Sto} {n I : Int} (hst : StoreAt w b s) (v : Vs s n I) (i : Int) (h1 : 1 ≤ i) (h2 : i ≤ I) : Calls Tryz.prog 69 #[baseV b.s n I, .int .i64 i] w fun e w' => e = .returned (.tuple #[inoV (Fs.inoAt (nv s) i), .int .i64 0]) ∧ Below w.heap.size w w' := by
  have S := Lib.hid ((base_box w b.s n I).alloc (w.heap.size + 1) (by simp) (inoL Ii.zero) 31)
  have HP : Hid (∀ w, Calls Tryz.prog 86 #[.agg #[.int .i64 n, .int .i64 I], .int .i64 i] w fun e w' => e = .returned (.tuple #[.int .i64 (43 + (i - 1) / 2), .int .i64 ((i - 1) % 2)]) ∧ Below w.heap.size w w') := Lib.hid (fun w => place_yes n I i w v.pl h1 h2)
  obtain ⟨k1, k2⟩ := tbl_ok v h1 h2
  obtain ⟨r1, r2, r3⟩ := v.read k1
  rw [k2] at r1 r3
  have HR : Hid (∀ W l, Lo [] w l W → Calls Tryz.prog 76 #[.pointer (some ⟨b.s, 0, none⟩), .int .i64 (43 + (i - 1) / 2)] W fun e w' => e = .returned (.tuple #[pageV (nv s (Fs.tbl i)), .int .i64 0]) ∧ Below W.heap.size W w') := Lib.hid (fun W l hl => by
    have := sread_any (hl.store hst) (43 + (i - 1) / 2)
    rw [r1, r2] at this
    exact this)
  have HL := Lib.hid r3
  have HG : Hid (∀ w, Calls Tryz.prog 109 #[pageV (nv s (Fs.tbl i)), .int .i64 ((i - 1) % 2)] w fun e w' => e = .returned (inoV (Ii.getI (nv s (Fs.tbl i)) (Fs.halfAt i))) ∧ Below w.heap.size w w') := Lib.hid (fun w => iget_any _ i w r3)
  unfold Fs.inoAt
  have hat : ((43 + (i - 1) / 2 : Int) == 0) = false := by rw [beq_eq_false_iff_ne]; omega
  clear v hst h1 h2 k1 k2 r1 r2 r3
  generalize (43 + (i - 1) / 2 : Int) = at1 at HP HR hat
  generalize (i - 1) % 2 = hf at HP HG
  generalize nv s (Fs.tbl i) = p at HR HL HG ⊢
  generalize Ii.getI p (Fs.halfAt i) = x at HG ⊢
  unfold baseV
  by_cases hk : x.k = 0
  · rw [if_pos hk]
    have gk : (x.k == 0) = true := by rw [hk]; rfl
    clear hk
    go_enter Tryz.func69, Tryz.ntmps69
    go_wp2_with (first
      | (go_at_call 86; (with_reducible refine (HP.out _).mono ?_); rintro e w1 ⟨rfl, hb⟩; replace S := Lib.hid (S.out.below hb); have c0 := (S.out.get 0 _ rfl).cell 0 _ rfl; clear hb)
      | (go_at_call 76; (with_reducible refine (HR.out _ _ S.out).mono ?_); rintro e w2 ⟨rfl, hb⟩; clear c0; replace S := Lib.hid (S.out.below hb); clear hb)
      | ((with_reducible refine wpList_store_new rfl (.tmp 8) (.tmp 26) rfl rfl ?_ ?_ HL.out ?_); (exact rfl); (exact rfl); intro W2 hP hB2 hz2; replace S := Lib.hid (S.out.made hP.rowAt hB2 hz2); clear hP hB2 hz2)
      | (with_reducible refine wpList_load_page ((S.out.get 2 _ rfl).page HL.out) rfl (.tmp 8) rfl rfl ?_)
      | (go_at_call 109; (with_reducible refine (HG.out _).mono ?_); rintro e w3 ⟨rfl, hb⟩; replace S := Lib.hid (S.out.below hb); clear hb)
      | ((with_reducible refine wpList_store_newrow (vs := inoL x) inoT ?_ (inoL_one _) rfl (.tmp 10) (.tmp 34) rfl rfl ?_ ?_ ?_); (exact rfl); (exact rfl); (exact rfl); intro W4 hP hB2 hz2; replace S := Lib.hid (S.out.made hP hB2 hz2); clear hP hB2 hz2; have i0 := (S.out.get 3 _ rfl).cell 0 _ rfl)
      | ((with_reducible refine wpList_store_rw (vs := inoL Ii.zero) inoT (S.out.get 1 _ rfl) ?_ ?_ (inoL_one _) rfl (.tmp 4) (.tmp 38) rfl ?_ ?_ ?_); (exact rfl); (exact rfl); (exact rfl); (exact rfl)))
    have S2 := Lib.hid (S.out.put 1 _ rfl (inoL Ii.zero) rfl)
    exact bodyPost_ret (results_row2 inoT _ 4 5 rfl _ (S2.out.get 1 _ rfl) rfl rfl rfl) rfl ⟨rfl, S2.out.bel⟩
  · rw [if_neg hk]
    have gk : (x.k == 0) = false := by rw [beq_eq_false_iff_ne]; exact hk
    clear hk
    go_enter Tryz.func69, Tryz.ntmps69
    go_wp2_with (first
      | (go_at_call 86; (with_reducible refine (HP.out _).mono ?_); rintro e w1 ⟨rfl, hb⟩; replace S := Lib.hid (S.out.below hb); have c0 := (S.out.get 0 _ rfl).cell 0 _ rfl; clear hb)
      | (go_at_call 76; (with_reducible refine (HR.out _ _ S.out).mono ?_); rintro e w2 ⟨rfl, hb⟩; clear c0; replace S := Lib.hid (S.out.below hb); clear hb)
      | ((with_reducible refine wpList_store_new rfl (.tmp 8) (.tmp 26) rfl rfl ?_ ?_ HL.out ?_); (exact rfl); (exact rfl); intro W2 hP hB2 hz2; replace S := Lib.hid (S.out.made hP.rowAt hB2 hz2); clear hP hB2 hz2)
      | (with_reducible refine wpList_load_page ((S.out.get 2 _ rfl).page HL.out) rfl (.tmp 8) rfl rfl ?_)
      | (go_at_call 109; (with_reducible refine (HG.out _).mono ?_); rintro e w3 ⟨rfl, hb⟩; replace S := Lib.hid (S.out.below hb); clear hb)
      | ((with_reducible refine wpList_store_newrow (vs := inoL x) inoT ?_ (inoL_one _) rfl (.tmp 10) (.tmp 34) rfl rfl ?_ ?_ ?_); (exact rfl); (exact rfl); (exact rfl); intro W4 hP hB2 hz2; replace S := Lib.hid (S.out.made hP hB2 hz2); clear hP hB2 hz2; have i0 := (S.out.get 3 _ rfl).cell 0 _ rfl)
      | (with_reducible refine wpList_load_rw inoT (S.out.get 3 _ rfl) rfl rfl (.tmp 10) rfl rfl ?_)
      | ((with_reducible refine wpList_store_rw (vs := inoL x) inoT (S.out.get 1 _ rfl) ?_ ?_ (inoL_one _) rfl (.tmp 4) (.tmp 39) rfl ?_ ?_ ?_); (exact rfl); (exact rfl); (exact rfl); (exact rfl)))
    have S2 := Lib.hid (S.out.put 1 _ rfl (inoL x) rfl)
    exact bodyPost_ret (results_row2 inoT _ 4 5 rfl _ (S2.out.get 1 _ rfl) rfl rfl rfl) rfl ⟨rfl, S2.out.bel⟩
theorem taken_no {I i : Int} {V : Fs.View} (h : Fs.takenF I i V = .error 22) : (i < 1 ∨ I < i) ∨ (1 ≤ i ∧ i ≤ I ∧ (Fs.inoAt V i).k = 0) := by
  unfold Fs.takenF at h
  by_cases c : 1 ≤ i ∧ i ≤ I
  · rw [if_pos c] at h
    right
    refine ⟨c.1, c.2, ?_⟩
    by_cases d : (Fs.inoAt V i).k = 0
    · exact d
    · rw [if_neg d] at h; cases h
  · left; omega
theorem taken_yes {I i : Int} {V : Fs.View} {x : Ino} (h : Fs.takenF I i V = .ok x) : 1 ≤ i ∧ i ≤ I ∧ x = Fs.inoAt V i ∧ x.k ≠ 0 := by
  unfold Fs.takenF at h
  by_cases c : 1 ≤ i ∧ i ≤ I
  · rw [if_pos c] at h
    by_cases d : (Fs.inoAt V i).k = 0
    · rw [if_pos d] at h; cases h
    · rw [if_neg d] at h
      injection h with h
      subst h
      exact ⟨c.1, c.2, rfl, d⟩
  · rw [if_neg c] at h; cases h
theorem taken_or (I i : Int) (V : Fs.View) : Fs.takenF I i V = .error 22 ∨ ∃ x, Fs.takenF I i V = .ok x := by
  unfold Fs.takenF
  split
  · split
    · exact Or.inl rfl
    · exact Or.inr ⟨_, rfl⟩
  · exact Or.inl rfl
theorem base_boxV (w : World) (st : Nat) (n I : Int) : Lo [] w [(w.heap.size, baseL st n I), (w.heap.size + 1, inoL Ii.zero)] ((w.alloc (.cells #[.pointer (some ⟨st, 0, none⟩), .int .i64 n, .int .i64 I] 77)).alloc (.cells (inoL Ii.zero).toArray 31)) :=
  (base_box w st n I).alloc (w.heap.size + 1) (by simp) (inoL Ii.zero) 31
set_option maxRecDepth 100000 in
set_option maxHeartbeats 2000000 in
theorem btaken_no {w : World} {b : Blk} {s : Sto} {n I : Int} (hst : StoreAt w b s) (v : Vs s n I) (i : Int) (h : Fs.takenF I i (nv s) = .error 22) : Calls Tryz.prog 91 #[baseV b.s n I, .int .i64 i] w fun e w' => e = .returned (.tuple #[inoV Ii.zero, .int .i64 22]) ∧ Below w.heap.size w w' := by
  have S := Lib.hid (base_boxV w b.s n I)
  have HI : ∃ E : Int, Hid (∀ W l, Lo [] w l W → Calls Tryz.prog 69 #[baseV b.s n I, .int .i64 i] W fun e w' => e = .returned (.tuple #[inoV Ii.zero, .int .i64 E]) ∧ Below W.heap.size W w') ∧ (E = 0 ∨ E = 22) := by
    rcases taken_no h with c | ⟨c1, c2, c3⟩
    · exact ⟨22, Lib.hid (fun W l _ => binode_no v i c), Or.inr rfl⟩
    · refine ⟨0, Lib.hid (fun W l hl => ?_), Or.inl rfl⟩
      have := binode_yes (hl.store hst) v i c1 c2
      have e : Fs.inoAt (nv s) i = Ii.zero := by
        unfold Fs.inoAt at c3 ⊢
        split
        · rfl
        · rename_i q; rw [if_neg q] at c3; exact absurd c3 q
      rw [e] at this
      exact this
  obtain ⟨E, HI, hE⟩ := HI
  clear v hst h
  rcases hE with rfl | rfl
  all_goals
    unfold baseV at HI ⊢
    go_enter Tryz.func91, Tryz.ntmps91
    go_wp2_with (first
      | (with_reducible refine wpList_load_base (S.out.get 0 _ rfl).base rfl (.tmp 2) rfl rfl ?_)
      | (go_at_call 69; refine (HI.out _ _ S.out).mono ?_; rintro e w1 ⟨rfl, hb⟩; replace S := Lib.hid (S.out.below hb); clear hb)
      | ((with_reducible refine wpList_store_newrow (vs := inoL Ii.zero) inoT ?_ (inoL_one _) rfl (.tmp 6) (.tmp 12) rfl rfl ?_ ?_ ?_); (exact rfl); (exact rfl); (exact rfl); intro W4 hP hB2 hz2; replace S := Lib.hid (S.out.made hP hB2 hz2); clear hP hB2 hz2; have i0 := (S.out.get 2 _ rfl).cell 0 _ rfl)
      | (with_reducible refine wpList_load_rw inoT (S.out.get 2 _ rfl) rfl rfl (.tmp 6) rfl rfl ?_)
      | ((with_reducible refine wpList_store_rw (vs := inoL Ii.zero) inoT (S.out.get 1 _ rfl) ?_ ?_ (inoL_one _) rfl (.tmp 4) (.tmp 21) rfl ?_ ?_ ?_); (exact rfl); (exact rfl); (exact rfl); (exact rfl))
      | ((with_reducible refine wpList_store_rw (vs := inoL Ii.zero) inoT (S.out.get 1 _ rfl) ?_ ?_ (inoL_one _) rfl (.tmp 4) (.tmp 22) rfl ?_ ?_ ?_); (exact rfl); (exact rfl); (exact rfl); (exact rfl)))
    have S2 := Lib.hid (S.out.put 1 _ rfl (inoL Ii.zero) rfl)
    exact bodyPost_ret (results_row2 inoT _ 4 5 rfl _ (S2.out.get 1 _ rfl) rfl rfl rfl) rfl ⟨rfl, S2.out.bel⟩
set_option maxRecDepth 100000 in
set_option maxHeartbeats 2000000 in
theorem btaken_yes {w : World} {b : Blk} {s : Sto} {n I : Int} (hst : StoreAt w b s) (v : Vs s n I) (i : Int) {x : Ino} (h : Fs.takenF I i (nv s) = .ok x) : Calls Tryz.prog 91 #[baseV b.s n I, .int .i64 i] w fun e w' => e = .returned (.tuple #[inoV x, .int .i64 0]) ∧ Below w.heap.size w w' := by
  have S := Lib.hid (base_boxV w b.s n I)
  obtain ⟨c1, c2, c3, c4⟩ := taken_yes h
  have HI : Hid (∀ W l, Lo [] w l W → Calls Tryz.prog 69 #[baseV b.s n I, .int .i64 i] W fun e w' => e = .returned (.tuple #[inoV x, .int .i64 0]) ∧ Below W.heap.size W w') := Lib.hid (fun W l hl => by
    have := binode_yes (hl.store hst) v i c1 c2
    rw [← c3] at this
    exact this)
  have gk : (x.k == 0) = false := by rw [beq_eq_false_iff_ne]; exact c4
  clear v hst h c1 c2 c3 c4
  unfold baseV at HI ⊢
  go_enter Tryz.func91, Tryz.ntmps91
  go_wp2_with (first
    | (with_reducible refine wpList_load_base (S.out.get 0 _ rfl).base rfl (.tmp 2) rfl rfl ?_)
    | (go_at_call 69; refine (HI.out _ _ S.out).mono ?_; rintro e w1 ⟨rfl, hb⟩; replace S := Lib.hid (S.out.below hb); clear hb)
    | ((with_reducible refine wpList_store_newrow (vs := inoL x) inoT ?_ (inoL_one _) rfl (.tmp 6) (.tmp 12) rfl rfl ?_ ?_ ?_); (exact rfl); (exact rfl); (exact rfl); intro W4 hP hB2 hz2; replace S := Lib.hid (S.out.made hP hB2 hz2); clear hP hB2 hz2; have i0 := (S.out.get 2 _ rfl).cell 0 _ rfl)
    | (with_reducible refine wpList_load_rw inoT (S.out.get 2 _ rfl) rfl rfl (.tmp 6) rfl rfl ?_)
    | ((with_reducible refine wpList_store_rw (vs := inoL x) inoT (S.out.get 1 _ rfl) ?_ ?_ (inoL_one _) rfl (.tmp 4) (.tmp 22) rfl ?_ ?_ ?_); (exact rfl); (exact rfl); (exact rfl); (exact rfl)))
  have S2 := Lib.hid (S.out.put 1 _ rfl (inoL x) rfl)
  exact bodyPost_ret (results_row2 inoT _ 4 5 rfl _ (S2.out.get 1 _ rfl) rfl rfl rfl) rfl ⟨rfl, S2.out.bel⟩
theorem base_boxP (w : World) (st : Nat) (n I : Int) : Lo [] w [(w.heap.size, baseL st n I), (w.heap.size + 1, byteVals zeros)] ((w.alloc (.cells #[.pointer (some ⟨st, 0, none⟩), .int .i64 n, .int .i64 I] 77)).alloc (.cells zeroCells 68)) :=
  (base_box w st n I).alloc (w.heap.size + 1) (by simp) (byteVals zeros) 68
theorem Lo.page {L : List Nat} {w0 w : World} {l : List (Nat × List Value)} (h : Lo L w0 l w) (k : Nat) {B : Nat} {p : List UInt8} (hx : l[k]? = some (B, byteVals p)) (hp : p.length = 64) : PageAt w B p := (h.get k _ hx).page hp
theorem Lo.putP {L : List Nat} {w0 w : World} {l : List (Nat × List Value)} (h : Lo L w0 l w) (k : Nat) {B : Nat} {p : List UInt8} (hx : l[k]? = some (B, byteVals p)) (hp : p.length = 64) (q : List UInt8) (hq : q.length = 64) : Lo L w0 (l.set k (B, byteVals q)) (w.setCells B 0 (byteVals q)) :=
  h.put k (B, byteVals p) hx _ (by simp only [byteVals_length]; omega)
set_option maxRecDepth 100000 in
set_option maxHeartbeats 2000000 in
theorem bdata_zero {w : World} (b : Blk) (n I : Int) : Calls Tryz.prog 98 #[baseV b.s n I, .int .i64 0] w fun e w' => e = .returned (.tuple #[pageV zeros, .int .i64 0]) ∧ Below w.heap.size w w' := by
  have S0 := Lib.hid (base_box w b.s n I)
  unfold baseV
  go_enter Tryz.func98, Tryz.ntmps98
  go_wp2_with ((with_reducible refine wpList_store_new rfl (.tmp 4) (.tmp 8) rfl ?_ ?_ ?_ zeros_length ?_); (simp [Act.eval]); (exact rfl); (exact rfl); intro W2 hP hB2 hz2; have S := Lib.hid (S0.out.madeB (w.heap.size + 1) (by simp) hP.rowAt hB2 hz2); clear hP hB2 hz2)
  exact bodyPost_ret (results_page_int _ 4 5 rfl _ (S.out.page 1 rfl zeros_length) rfl) rfl ⟨rfl, S.out.bel⟩
set_option maxRecDepth 100000 in
set_option maxHeartbeats 2000000 in
theorem bdata_no {w : World} {b : Blk} {s : Sto} {n I : Int} (v : Vs s n I) (m : Int) (h0 : m ≠ 0) (h1 : ¬ Fs.isData n I m) : Calls Tryz.prog 98 #[baseV b.s n I, .int .i64 m] w fun e w' => e = .returned (.tuple #[pageV zeros, .int .i64 5]) ∧ Below w.heap.size w w' := by
  have S0 := Lib.hid (base_boxP w b.s n I)
  have HB : Hid (∀ w, Calls Tryz.prog 129 #[.agg #[.int .i64 n, .int .i64 I], .int .i64 m] w fun e w' => e = .returned (.int .i64 (-1)) ∧ Below w.heap.size w w') := Lib.hid (fun w => bit_no n I m w v.pl (by unfold Fs.isData at h1; omega))
  have g0 : (m == 0) = false := by rw [beq_eq_false_iff_ne]; exact h0
  clear v h0 h1
  unfold baseV
  go_enter Tryz.func98, Tryz.ntmps98
  go_wp2_with fail
  rw [← zeroCells_def]
  generalize hw : (w.alloc _).alloc _ = w1
  have S : Hid (Lo [] w [(w.heap.size, baseL b.s n I), (w.heap.size + 1, byteVals zeros)] w1) := Lib.hid (by rw [← hw]; exact S0.out)
  clear hw S0
  go_wp2_with (first
    | (go_at_call 129; (with_reducible refine (HB.out _).mono ?_); rintro e w2 ⟨rfl, hb⟩; replace S := Lib.hid (S.out.below hb); clear hb)
    | ((with_reducible refine wpList_store_page (S.out.page 1 rfl zeros_length) zeros_length rfl (.tmp 4) (.tmp 14) rfl rfl ?_ ?_); (exact rfl)))
  have S2 := Lib.hid (S.out.putP 1 rfl zeros_length zeros zeros_length)
  exact bodyPost_ret (results_page_int _ 4 5 rfl _ (S2.out.page 1 rfl zeros_length) rfl) rfl ⟨rfl, S2.out.bel⟩
theorem data_ok {s : Sto} {n I m : Int} (v : Vs s n I) (h : Fs.isData n I m) : okP n m ∧ m ≠ 0 := by
  obtain ⟨b1, b2, b3, b4, b5, b6⟩ := v.bd
  unfold Fs.isData at h
  exact ⟨⟨by omega, by omega, by omega⟩, by omega⟩
set_option maxRecDepth 100000 in
set_option maxHeartbeats 2000000 in
theorem bdata_yes {w : World} {b : Blk} {s : Sto} {n I : Int} (hst : StoreAt w b s) (v : Vs s n I) (m : Int) (h1 : Fs.isData n I m) : Calls Tryz.prog 98 #[baseV b.s n I, .int .i64 m] w fun e w' => e = .returned (.tuple #[pageV (nv s m.toNat), .int .i64 0]) ∧ Below w.heap.size w w' := by
  have S0 := Lib.hid (base_boxP w b.s n I)
  obtain ⟨k1, k2⟩ := data_ok v h1
  obtain ⟨r1, r2, r3⟩ := v.read k1
  have HB : Hid (∀ w, Calls Tryz.prog 129 #[.agg #[.int .i64 n, .int .i64 I], .int .i64 m] w fun e w' => e = .returned (.int .i64 (m - Pl.dataN I)) ∧ Below w.heap.size w w') := Lib.hid (fun w => bit_yes n I m w v.pl h1.1 h1.2)
  have HR : Hid (∀ W l, Lo [] w l W → Calls Tryz.prog 76 #[.pointer (some ⟨b.s, 0, none⟩), .int .i64 m] W fun e w' => e = .returned (.tuple #[pageV (nv s m.toNat), .int .i64 0]) ∧ Below W.heap.size W w') := Lib.hid (fun W l hl => by
    have := sread_any (hl.store hst) m
    rw [r1, r2] at this
    exact this)
  have HL := Lib.hid r3
  have g0 : (m == 0) = false := by rw [beq_eq_false_iff_ne]; exact k2
  have gb : 0 ≤ m - Pl.dataN I := by have := h1.1; omega
  clear v h1 k1 k2 r1 r2 r3 hst
  generalize nv s m.toNat = p at HR HL ⊢
  generalize m - Pl.dataN I = x at HB gb
  unfold baseV
  go_enter Tryz.func98, Tryz.ntmps98
  go_wp2_with fail
  rw [← zeroCells_def]
  generalize hw : (w.alloc _).alloc _ = w1
  have S : Hid (Lo [] w [(w.heap.size, baseL b.s n I), (w.heap.size + 1, byteVals zeros)] w1) := Lib.hid (by rw [← hw]; exact S0.out)
  clear hw S0
  go_wp2_with (first
    | (go_at_call 129; (with_reducible refine (HB.out _).mono ?_); rintro e w2 ⟨rfl, hb⟩; replace S := Lib.hid (S.out.below hb); clear hb; have c0 := (S.out.get 0 _ rfl).cell 0 _ rfl)
    | (go_at_call 76; (with_reducible refine (HR.out _ _ S.out).mono ?_); rintro e w2 ⟨rfl, hb⟩; clear c0; replace S := Lib.hid (S.out.below hb); clear hb)
    | ((with_reducible refine wpList_store_page (S.out.page 1 rfl zeros_length) HL.out rfl (.tmp 4) (.tmp 19) rfl rfl ?_ ?_); (exact rfl)))
  have S2 := Lib.hid (S.out.putP 1 rfl zeros_length p HL.out)
  exact bodyPost_ret (results_page_int _ 4 5 rfl _ (S2.out.page 1 rfl HL.out) rfl) rfl ⟨rfl, S2.out.bel⟩
theorem data_or (n I m : Int) (V : Fs.View) : (m = 0 ∧ Fs.dataF n I m V = .ok zeros) ∨ (m ≠ 0 ∧ Fs.isData n I m ∧ Fs.dataF n I m V = .ok (V m.toNat)) ∨ (m ≠ 0 ∧ ¬ Fs.isData n I m ∧ Fs.dataF n I m V = .error 5) := by
  unfold Fs.dataF
  by_cases c : m = 0
  · left; exact ⟨c, by rw [if_pos c]⟩
  · by_cases d : Fs.isData n I m
    · right; left; exact ⟨c, d, by rw [if_neg c, if_pos d]⟩
    · right; right; exact ⟨c, d, by rw [if_neg c, if_neg d]⟩
theorem data_len {s : Sto} {n I m : Int} {p : List UInt8} (v : Vs s n I) (h : Fs.dataF n I m (nv s) = .ok p) : p.length = 64 := by
  rcases data_or n I m (nv s) with ⟨_, e⟩ | ⟨_, d, e⟩ | ⟨_, _, e⟩
  · rw [e] at h; injection h with h; subst h; exact zeros_length
  · rw [e] at h; injection h with h; subst h; exact (v.read (data_ok v d).1).2.2
  · rw [e] at h; cases h
theorem data_err {n I m e : Int} {V : Fs.View} (h : Fs.dataF n I m V = .error e) : e = 5 := by
  rcases data_or n I m V with ⟨_, q⟩ | ⟨_, d, q⟩ | ⟨_, _, q⟩
  · rw [q] at h; cases h
  · rw [q] at h; cases h
  · rw [q] at h; injection h with h; exact h.symm
theorem bdata_any {w : World} {b : Blk} {s : Sto} {n I : Int} (hst : StoreAt w b s) (v : Vs s n I) (m : Int) : Calls Tryz.prog 98 #[baseV b.s n I, .int .i64 m] w fun e w' => e = .returned (exV pageV (pageV zeros) (Fs.dataF n I m (nv s))) ∧ Below w.heap.size w w' := by
  rcases data_or n I m (nv s) with ⟨h, e⟩ | ⟨h, d, e⟩ | ⟨h, d, e⟩
  · subst h; rw [e]; exact bdata_zero b n I
  · rw [e]; exact bdata_yes hst v m d
  · rw [e]; exact bdata_no v m h d
end Go.Proofs.YtncmihikpcdgoaaGreat

namespace Go.Proofs.YtncmihikpcdgoaaGreat
open Go.RowKit Go.Maps
open Dk (zeros zeros_length)
open Ii (Ino)
/-- where in an inode the first number of a way stands -/
def offN (i : Int) : Nat := if Sp.dep i = 0 then 5 + (Sp.inn i).toNat else if Sp.dep i = 1 then 9 else 10
def WayYes (X : Nat) (i : Int) (w : World) (e : Ending) (w' : World) : Prop := ∃ A c, e = .returned (.tuple #[.pointer (some ⟨X, offN i, none⟩), .slice A (Fs.placesN i).length c]) ∧ IntRow w' A (Fs.placesN i).length (Fs.placesN i) ∧ Below w.heap.size w w' ∧ ∀ b o, A = some ⟨b, o, none⟩ → w.heap.size ≤ b
theorem intRow_nil (w : World) : IntRow w none 0 [] := ⟨rfl, by unfold maxLen; omega, fun h => absurd h (by omega)⟩
theorem intRow_new (w : World) (zs : List Int) (t : TypeId) (hl : zs.length ≤ 1000) : IntRow ((w.alloc (.cells (intVals zs).toArray t)).drew) (some ⟨w.heap.size, 0, none⟩) zs.length zs where
  len := rfl
  small := by unfold maxLen; omega
  cells := fun _ => ⟨w.heap.size, 0, rfl, by simp, fun i x hx => by
    rw [Nat.zero_add, World.cell?_drew, World.cell?_alloc_mark]
    unfold intVals
    simp [hx]⟩
set_option maxRecDepth 100000 in
set_option maxHeartbeats 2000000 in
theorem way_0 (X : Nat) (i : Int) (w : World) (h0 : 0 ≤ i) (h1 : i < 4) : Calls Tryz.prog 93 #[.pointer (some ⟨X, 0, none⟩), .int .i64 i] w (WayYes X i w) := by
  obtain ⟨p1, p2, p3, p4⟩ := Sp.page0 h0 h1
  have HW : Hid (∀ w, Calls Tryz.prog 131 #[.int .i64 i] w fun e w' => e = .returned (.tuple #[wayV 0 0 i, .bool true]) ∧ Below w.heap.size w w') := Lib.hid (fun w => by
    have := where_any i w
    unfold WhereGives at this
    rw [p1, p2, p3, p4] at this
    exact this)
  have HE : Hid (∀ e w', (e = .returned (.tuple #[.pointer (some ⟨X, 5 + i.toNat, none⟩), .slice none 0 0]) ∧ Below w.heap.size w w') → WayYes X i w e w') := Lib.hid (fun e w' ⟨h1, h2⟩ => by
    have e1 : Fs.placesN i = [] := by unfold Fs.placesN; rw [p1, if_pos rfl, p2, if_pos rfl]
    have e2 : offN i = 5 + i.toNat := by unfold offN; rw [p2, if_pos rfl, p4]
    unfold WayYes
    rw [e1, e2]
    exact ⟨none, 0, h1, intRow_nil _, h2, fun b o h => by cases h⟩)
  have S := Lib.hid (Lo.start (L := []) w (by simp))
  obtain ⟨k, rfl⟩ := Int.eq_ofNat_of_zero_le h0
  have hk : k < 4 := by omega
  rw [Int.toNat_natCast] at HE
  clear p1 p2 p3 p4
  go_enter Tryz.func93, Tryz.ntmps93
  go_wp2_with (first
    | (go_at_call 131; (with_reducible refine (HW.out _).mono ?_); rintro e w2 ⟨rfl, hb⟩; replace S := Lib.hid (S.out.below hb); clear hb)
    | ((with_reducible refine wpList_store_newrow (vs := wayL 0 0 (k : Int)) wayT ?_ (wayL_one _ _ _) rfl (.tmp 6) (.tmp 11) rfl rfl ?_ ?_ ?_); (exact rfl); (exact rfl); (exact rfl); intro W4 hP hB2 hz2; replace S := Lib.hid (S.out.made hP hB2 hz2); clear hP hB2 hz2; have c0 := (S.out.get 0 _ rfl).cell 0 _ rfl; have c1 := (S.out.get 0 _ rfl).cell 1 _ rfl; have c2 := (S.out.get 0 _ rfl).cell 2 _ rfl))
  go_quiet (fail)
  go_wp2
  go_ret2
  exact HE.out _ _ ⟨rfl, (S.out.drewN _).bel⟩
set_option maxRecDepth 100000 in
set_option maxHeartbeats 2000000 in
theorem way_1 (X : Nat) (i : Int) (w : World) (h0 : 4 ≤ i) (h1 : i < 36) : Calls Tryz.prog 93 #[.pointer (some ⟨X, 0, none⟩), .int .i64 i] w (WayYes X i w) := by
  obtain ⟨p1, p2, p3, p4⟩ := Sp.page1 h0 h1
  have HW : Hid (∀ w, Calls Tryz.prog 131 #[.int .i64 i] w fun e w' => e = .returned (.tuple #[wayV 1 0 (i - 4), .bool true]) ∧ Below w.heap.size w w') := Lib.hid (fun w => by
    have := where_any i w
    unfold WhereGives at this
    rw [p1, p2, p3, p4] at this
    exact this)
  have HE : Hid (∀ e w', (∃ A c, e = .returned (.tuple #[.pointer (some ⟨X, 9, none⟩), .slice A 1 c]) ∧ IntRow w' A 1 [i - 4] ∧ Below w.heap.size w w' ∧ ∀ b o, A = some ⟨b, o, none⟩ → w.heap.size ≤ b) → WayYes X i w e w') := Lib.hid (fun e w' ⟨A, c, h1, h2, h3⟩ => by
    have e1 : Fs.placesN i = [i - 4] := by unfold Fs.placesN; rw [p1, if_pos rfl, p2, if_neg (by decide), if_pos rfl, p4]
    have e2 : offN i = 9 := by unfold offN; rw [p2, if_neg (by decide), if_pos rfl]
    unfold WayYes
    rw [e1, e2]
    exact ⟨A, c, h1, h2, h3⟩)
  have S := Lib.hid (Lo.start (L := []) w (by simp))
  clear p1 p2 p3 p4
  generalize i - 4 = k at HW HE
  go_enter Tryz.func93, Tryz.ntmps93
  go_wp2_with (first
    | (go_at_call 131; (with_reducible refine (HW.out _).mono ?_); rintro e w2 ⟨rfl, hb⟩; replace S := Lib.hid (S.out.below hb); clear hb)
    | ((with_reducible refine wpList_store_newrow (vs := wayL 1 0 k) wayT ?_ (wayL_one _ _ _) rfl (.tmp 6) (.tmp 11) rfl rfl ?_ ?_ ?_); (exact rfl); (exact rfl); (exact rfl); intro W4 hP hB2 hz2; replace S := Lib.hid (S.out.made hP hB2 hz2); clear hP hB2 hz2; have c0 := (S.out.get 0 _ rfl).cell 0 _ rfl; have c1 := (S.out.get 0 _ rfl).cell 1 _ rfl; have c2 := (S.out.get 0 _ rfl).cell 2 _ rfl))
  go_region
  all_goals
    go_wp2
    go_ret2
    exact HE.out _ _ ⟨_, _, rfl, intRow_new W4 [k] _ (by simp), ((S.out.skip _).drew).bel, fun b o h => by injection h with h; injection h with h; subst h; exact S.out.only.size⟩
set_option maxRecDepth 100000 in
set_option maxHeartbeats 2000000 in
theorem way_2 (X : Nat) (i : Int) (w : World) (h0 : 36 ≤ i) (h1 : i < 1060) : Calls Tryz.prog 93 #[.pointer (some ⟨X, 0, none⟩), .int .i64 i] w (WayYes X i w) := by
  obtain ⟨p1, p2, p3, p4⟩ := Sp.page2 h0 h1
  have HW : Hid (∀ w, Calls Tryz.prog 131 #[.int .i64 i] w fun e w' => e = .returned (.tuple #[wayV 2 (Sp.out i) (Sp.inn i), .bool true]) ∧ Below w.heap.size w w') := Lib.hid (fun w => by
    have := where_any i w
    unfold WhereGives at this
    rw [p1, p2] at this
    exact this)
  have HE : Hid (∀ e w', (∃ A c, e = .returned (.tuple #[.pointer (some ⟨X, 10, none⟩), .slice A 2 c]) ∧ IntRow w' A 2 [Sp.out i, Sp.inn i] ∧ Below w.heap.size w w' ∧ ∀ b o, A = some ⟨b, o, none⟩ → w.heap.size ≤ b) → WayYes X i w e w') := Lib.hid (fun e w' ⟨A, c, h1, h2, h3⟩ => by
    have e1 : Fs.placesN i = [Sp.out i, Sp.inn i] := by unfold Fs.placesN; rw [p1, if_pos rfl, p2, if_neg (by decide), if_neg (by decide)]
    have e2 : offN i = 10 := by unfold offN; rw [p2, if_neg (by decide), if_neg (by decide)]
    unfold WayYes
    rw [e1, e2]
    exact ⟨A, c, h1, h2, h3⟩)
  have S := Lib.hid (Lo.start (L := []) w (by simp))
  clear p1 p2 p3 p4
  generalize Sp.inn i = k at HW HE
  generalize Sp.out i = o at HW HE
  go_enter Tryz.func93, Tryz.ntmps93
  go_wp2_with (first
    | (go_at_call 131; (with_reducible refine (HW.out _).mono ?_); rintro e w2 ⟨rfl, hb⟩; replace S := Lib.hid (S.out.below hb); clear hb)
    | ((with_reducible refine wpList_store_newrow (vs := wayL 2 o k) wayT ?_ (wayL_one _ _ _) rfl (.tmp 6) (.tmp 11) rfl rfl ?_ ?_ ?_); (exact rfl); (exact rfl); (exact rfl); intro W4 hP hB2 hz2; replace S := Lib.hid (S.out.made hP hB2 hz2); clear hP hB2 hz2; have c0 := (S.out.get 0 _ rfl).cell 0 _ rfl; have c1 := (S.out.get 0 _ rfl).cell 1 _ rfl; have c2 := (S.out.get 0 _ rfl).cell 2 _ rfl))
  go_region
  all_goals
    go_wp2
    go_ret2
    exact HE.out _ _ ⟨_, _, rfl, intRow_new W4 [o, k] _ (by simp), ((S.out.skip _).drew).bel, fun b o h => by injection h with h; injection h with h; subst h; exact S.out.only.size⟩
theorem way_yes (X : Nat) (i : Int) (w : World) (h : Sp.okB i = true) : Calls Tryz.prog 93 #[.pointer (some ⟨X, 0, none⟩), .int .i64 i] w (WayYes X i w) := by
  rcases Sp.kinds i with c | ⟨c1, c2⟩ | ⟨c1, c2⟩ | ⟨c1, c2⟩
  · rw [(Sp.no_page c).1] at h; cases h
  · exact way_0 X i w c1 c2
  · exact way_1 X i w c1 c2
  · exact way_2 X i w c1 c2
theorem first_cell {w : World} {X : Nat} {x : Ino} (h : RowAt w X (inoL x)) (i : Int) (hi : Sp.okB i = true) : w.cell? ⟨X, offN i, none⟩ = some (.int .i64 (Fs.firstN x i)) := by
  refine h.cell _ _ ?_
  unfold offN Fs.firstN
  rw [if_pos hi]
  rcases Sp.kinds i with c | ⟨c1, c2⟩ | ⟨c1, c2⟩ | ⟨c1, c2⟩
  · rw [(Sp.no_page c).1] at hi; cases hi
  · obtain ⟨_, p2, _, p4⟩ := Sp.page0 c1 c2
    rw [p2, if_pos rfl, if_pos rfl, p4]
    obtain ⟨k, rfl⟩ := Int.eq_ofNat_of_zero_le c1
    rw [Int.toNat_natCast]
    have : k = 0 ∨ k = 1 ∨ k = 2 ∨ k = 3 := by omega
    rcases this with rfl | rfl | rfl | rfl <;> rfl
  · obtain ⟨_, p2, _, _⟩ := Sp.page1 c1 c2
    rw [p2, if_neg (by decide), if_pos rfl, if_neg (by decide), if_pos rfl]; rfl
  · obtain ⟨_, p2, _, _⟩ := Sp.page2 c1 c2
    rw [p2, if_neg (by decide), if_neg (by decide), if_neg (by decide), if_neg (by decide)]; rfl
theorem places_len (i : Int) : (Fs.placesN i).length ≤ 2 := by
  unfold Fs.placesN
  split
  · split
    · simp
    · split <;> simp
  · simp
end Go.Proofs.YtncmihikpcdgoaaGreat
