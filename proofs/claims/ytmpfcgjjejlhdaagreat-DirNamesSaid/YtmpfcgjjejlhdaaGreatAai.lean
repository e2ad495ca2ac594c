/- Texts of the proof. -/
import Derived.Test.YtmpfcgjjejlhdaaGreatAah
import Derived.Test.YtmpfcgjjejlhdaaGreatAaf
set_option maxRecDepth 100000
set_option maxHeartbeats 16000000
namespace Go.Proofs.YtmpfcgjjejlhdaaGreat
section
open Dk (zeros zeros_length)
open Go.RowKit
open Ii (Ino)
theorem iget_0 (p : List UInt8) (w : World) (hp : p.length = 64) :
    Calls Tryz.prog 126 #[pageV p, .int .i64 0] w fun e w' => e = .returned (inoV (Ii.getI p 0)) ∧ Below w.heap.size w w' := by
  have HS := Lib.hid (bxS_box w p 47 hp)
  have Hgk := Lib.hid (fun (w : World) => get_any p 0 1 w hp (by decide) (by decide))
  have Hgp := Lib.hid (fun (w : World) => get_any p 2 2 w hp (by decide) (by decide))
  have Hgu := Lib.hid (fun (w : World) => get_any p 4 2 w hp (by decide) (by decide))
  have Hgl := Lib.hid (fun (w : World) => get_any p 6 2 w hp (by decide) (by decide))
  have Hgs := Lib.hid (fun (w : World) => get_any p 8 4 w hp (by decide) (by decide))
  have Hga := Lib.hid (fun (w : World) => get_any p 12 2 w hp (by decide) (by decide))
  have Hgb := Lib.hid (fun (w : World) => get_any p 14 2 w hp (by decide) (by decide))
  have Hgc := Lib.hid (fun (w : World) => get_any p 16 2 w hp (by decide) (by decide))
  have Hgd := Lib.hid (fun (w : World) => get_any p 18 2 w hp (by decide) (by decide))
  have Hge := Lib.hid (fun (w : World) => get_any p 20 2 w hp (by decide) (by decide))
  have Hgf := Lib.hid (fun (w : World) => get_any p 22 2 w hp (by decide) (by decide))
  have HE : Hid (Ii.getI p 0 = ⟨Pg.getN p 0 1, Pg.getN p 2 2, Pg.getN p 4 2, Pg.getN p 6 2, Pg.getN p 8 4, Pg.getN p 12 2, Pg.getN p 14 2, Pg.getN p 16 2, Pg.getN p 18 2, Pg.getN p 20 2, Pg.getN p 22 2⟩) := Lib.hid rfl
  rw [HE.out]
  clear HE hp
  generalize Pg.getN p 0 1 = gk at Hgk ⊢
  generalize Pg.getN p 2 2 = gp at Hgp ⊢
  generalize Pg.getN p 4 2 = gu at Hgu ⊢
  generalize Pg.getN p 6 2 = gl at Hgl ⊢
  generalize Pg.getN p 8 4 = gs at Hgs ⊢
  generalize Pg.getN p 12 2 = ga at Hga ⊢
  generalize Pg.getN p 14 2 = gb at Hgb ⊢
  generalize Pg.getN p 16 2 = gc at Hgc ⊢
  generalize Pg.getN p 18 2 = gd at Hgd ⊢
  generalize Pg.getN p 20 2 = ge at Hge ⊢
  generalize Pg.getN p 22 2 = gf at Hgf ⊢
  obtain ⟨y0, HY⟩ : ∃ y0 : Ino, Hid (y0 = ⟨gk, gp, gu, gl, gs, 0, 0, 0, 0, ge, gf⟩) := ⟨_, Lib.hid rfl⟩
  unfold pageV
  go_enter Tryz.func126, Tryz.ntmps126
  go_wp2_with fail
  refine (isThere_yes _ _ (by decide) (by decide)).mono ?_
  rintro e w1 ⟨rfl, hw⟩
  have S : Hid (BxS w p w1) := Lib.hid (by rw [← hw]; exact HS.out)
  clear hw HS
  go_wp2_with fail
  refine wp_region_lin (GtS w p y0) (fun i => i == 29 || i == 30) (fun i => [pageV p, .int .i64 0, .int .i64 0, .int .i64 gk, pageV p, .int .i64 0, .int .i64 2, .int .i64 gp, pageV p, .int .i64 0, .int .i64 4, .int .i64 gu, pageV p, .int .i64 0, .int .i64 6, .int .i64 gl, pageV p, .int .i64 0, .int .i64 8, .int .i64 gs, pageV p, .int .i64 0, .int .i64 20, .int .i64 ge, pageV p, .int .i64 0, .int .i64 22, .int .i64 gf, inoV y0].getD i undef) (none) (by kernel_rfl) (by kernel_rfl) (⟨BxS.drew S.out, trivial⟩) ?_
  refine lin_step (i := 0) (d := some 14) (v := pageV p) rfl rfl (by kernel_rfl) (by kernel_rfl) rfl rfl (ord_page (by kernel_rfl) (.tmp 2) rfl rfl (fun _ _ hS => hS.1.page)) ?_
  (try simp only [Act.put, puA, puB, puC])
  refine lin_step (i := 1) (d := some 15) (v := .int .i64 0) rfl rfl (by kernel_rfl) (by kernel_rfl) rfl rfl (ord_value (by kernel_rfl) ?_) ?_
  · (intro _ _ _; go_simp) <;> kernel_rfl
  (try simp only [Act.put, puA, puB, puC])
  refine lin_step (i := 2) (d := some 16) (v := .int .i64 0) rfl rfl (by kernel_rfl) (by kernel_rfl) rfl rfl (ord_value (by kernel_rfl) ?_) ?_
  · (intro _ _ _; go_simp) <;> kernel_rfl
  (try simp only [Act.put, puA, puB, puC])
  refine lin_step (i := 3) (d := some 17) (v := .int .i64 gk) rfl rfl (by kernel_rfl) (by kernel_rfl) rfl rfl (ord_call (f := 142) (args := #[pageV p, .int .i64 0, .int .i64 1]) (by kernel_rfl) ?_ (fun _ W hS => (Hgk.out W).mono fun _ _ h => ⟨h.1, GtS.call hS h.2⟩)) ?_
  · intro _; go_simp
  (try simp only [Act.put, puA, puB, puC])
  refine lin_step (i := 4) (d := some 18) (v := pageV p) rfl rfl (by kernel_rfl) (by kernel_rfl) rfl rfl (ord_page (by kernel_rfl) (.tmp 2) rfl rfl (fun _ _ hS => hS.1.page)) ?_
  (try simp only [Act.put, puA, puB, puC])
  refine lin_step (i := 5) (d := some 19) (v := .int .i64 0) rfl rfl (by kernel_rfl) (by kernel_rfl) rfl rfl (ord_value (by kernel_rfl) ?_) ?_
  · (intro _ _ _; go_simp) <;> kernel_rfl
  (try simp only [Act.put, puA, puB, puC])
  refine lin_step (i := 6) (d := some 20) (v := .int .i64 2) rfl rfl (by kernel_rfl) (by kernel_rfl) rfl rfl (ord_value (by kernel_rfl) ?_) ?_
  · (intro _ _ _; go_simp) <;> kernel_rfl
  (try simp only [Act.put, puA, puB, puC])
  refine lin_step (i := 7) (d := some 21) (v := .int .i64 gp) rfl rfl (by kernel_rfl) (by kernel_rfl) rfl rfl (ord_call (f := 142) (args := #[pageV p, .int .i64 2, .int .i64 2]) (by kernel_rfl) ?_ (fun _ W hS => (Hgp.out W).mono fun _ _ h => ⟨h.1, GtS.call hS h.2⟩)) ?_
  · intro _; go_simp
  (try simp only [Act.put, puA, puB, puC])
  refine lin_step (i := 8) (d := some 22) (v := pageV p) rfl rfl (by kernel_rfl) (by kernel_rfl) rfl rfl (ord_page (by kernel_rfl) (.tmp 2) rfl rfl (fun _ _ hS => hS.1.page)) ?_
  (try simp only [Act.put, puA, puB, puC])
  refine lin_step (i := 9) (d := some 23) (v := .int .i64 0) rfl rfl (by kernel_rfl) (by kernel_rfl) rfl rfl (ord_value (by kernel_rfl) ?_) ?_
  · (intro _ _ _; go_simp) <;> kernel_rfl
  (try simp only [Act.put, puA, puB, puC])
  refine lin_step (i := 10) (d := some 24) (v := .int .i64 4) rfl rfl (by kernel_rfl) (by kernel_rfl) rfl rfl (ord_value (by kernel_rfl) ?_) ?_
  · (intro _ _ _; go_simp) <;> kernel_rfl
  (try simp only [Act.put, puA, puB, puC])
  refine lin_step (i := 11) (d := some 25) (v := .int .i64 gu) rfl rfl (by kernel_rfl) (by kernel_rfl) rfl rfl (ord_call (f := 142) (args := #[pageV p, .int .i64 4, .int .i64 2]) (by kernel_rfl) ?_ (fun _ W hS => (Hgu.out W).mono fun _ _ h => ⟨h.1, GtS.call hS h.2⟩)) ?_
  · intro _; go_simp
  (try simp only [Act.put, puA, puB, puC])
  refine lin_step (i := 12) (d := some 26) (v := pageV p) rfl rfl (by kernel_rfl) (by kernel_rfl) rfl rfl (ord_page (by kernel_rfl) (.tmp 2) rfl rfl (fun _ _ hS => hS.1.page)) ?_
  (try simp only [Act.put, puA, puB, puC])
  refine lin_step (i := 13) (d := some 27) (v := .int .i64 0) rfl rfl (by kernel_rfl) (by kernel_rfl) rfl rfl (ord_value (by kernel_rfl) ?_) ?_
  · (intro _ _ _; go_simp) <;> kernel_rfl
  (try simp only [Act.put, puA, puB, puC])
  refine lin_step (i := 14) (d := some 28) (v := .int .i64 6) rfl rfl (by kernel_rfl) (by kernel_rfl) rfl rfl (ord_value (by kernel_rfl) ?_) ?_
  · (intro _ _ _; go_simp) <;> kernel_rfl
  (try simp only [Act.put, puA, puB, puC])
  refine lin_step (i := 15) (d := some 29) (v := .int .i64 gl) rfl rfl (by kernel_rfl) (by kernel_rfl) rfl rfl (ord_call (f := 142) (args := #[pageV p, .int .i64 6, .int .i64 2]) (by kernel_rfl) ?_ (fun _ W hS => (Hgl.out W).mono fun _ _ h => ⟨h.1, GtS.call hS h.2⟩)) ?_
  · intro _; go_simp
  (try simp only [Act.put, puA, puB, puC])
  refine lin_step (i := 16) (d := some 30) (v := pageV p) rfl rfl (by kernel_rfl) (by kernel_rfl) rfl rfl (ord_page (by kernel_rfl) (.tmp 2) rfl rfl (fun _ _ hS => hS.1.page)) ?_
  (try simp only [Act.put, puA, puB, puC])
  refine lin_step (i := 17) (d := some 31) (v := .int .i64 0) rfl rfl (by kernel_rfl) (by kernel_rfl) rfl rfl (ord_value (by kernel_rfl) ?_) ?_
  · (intro _ _ _; go_simp) <;> kernel_rfl
  (try simp only [Act.put, puA, puB, puC])
  refine lin_step (i := 18) (d := some 32) (v := .int .i64 8) rfl rfl (by kernel_rfl) (by kernel_rfl) rfl rfl (ord_value (by kernel_rfl) ?_) ?_
  · (intro _ _ _; go_simp) <;> kernel_rfl
  (try simp only [Act.put, puA, puB, puC])
  refine lin_step (i := 19) (d := some 33) (v := .int .i64 gs) rfl rfl (by kernel_rfl) (by kernel_rfl) rfl rfl (ord_call (f := 142) (args := #[pageV p, .int .i64 8, .int .i64 4]) (by kernel_rfl) ?_ (fun _ W hS => (Hgs.out W).mono fun _ _ h => ⟨h.1, GtS.call hS h.2⟩)) ?_
  · intro _; go_simp
  (try simp only [Act.put, puA, puB, puC])
  refine lin_step (i := 20) (d := some 34) (v := pageV p) rfl rfl (by kernel_rfl) (by kernel_rfl) rfl rfl (ord_page (by kernel_rfl) (.tmp 2) rfl rfl (fun _ _ hS => hS.1.page)) ?_
  (try simp only [Act.put, puA, puB, puC])
  refine lin_step (i := 21) (d := some 35) (v := .int .i64 0) rfl rfl (by kernel_rfl) (by kernel_rfl) rfl rfl (ord_value (by kernel_rfl) ?_) ?_
  · (intro _ _ _; go_simp) <;> kernel_rfl
  (try simp only [Act.put, puA, puB, puC])
  refine lin_step (i := 22) (d := some 36) (v := .int .i64 20) rfl rfl (by kernel_rfl) (by kernel_rfl) rfl rfl (ord_value (by kernel_rfl) ?_) ?_
  · (intro _ _ _; go_simp) <;> kernel_rfl
  (try simp only [Act.put, puA, puB, puC])
  refine lin_step (i := 23) (d := some 37) (v := .int .i64 ge) rfl rfl (by kernel_rfl) (by kernel_rfl) rfl rfl (ord_call (f := 142) (args := #[pageV p, .int .i64 20, .int .i64 2]) (by kernel_rfl) ?_ (fun _ W hS => (Hge.out W).mono fun _ _ h => ⟨h.1, GtS.call hS h.2⟩)) ?_
  · intro _; go_simp
  (try simp only [Act.put, puA, puB, puC])
  refine lin_step (i := 24) (d := some 38) (v := pageV p) rfl rfl (by kernel_rfl) (by kernel_rfl) rfl rfl (ord_page (by kernel_rfl) (.tmp 2) rfl rfl (fun _ _ hS => hS.1.page)) ?_
  (try simp only [Act.put, puA, puB, puC])
  refine lin_step (i := 25) (d := some 39) (v := .int .i64 0) rfl rfl (by kernel_rfl) (by kernel_rfl) rfl rfl (ord_value (by kernel_rfl) ?_) ?_
  · (intro _ _ _; go_simp) <;> kernel_rfl
  (try simp only [Act.put, puA, puB, puC])
  refine lin_step (i := 26) (d := some 40) (v := .int .i64 22) rfl rfl (by kernel_rfl) (by kernel_rfl) rfl rfl (ord_value (by kernel_rfl) ?_) ?_
  · (intro _ _ _; go_simp) <;> kernel_rfl
  (try simp only [Act.put, puA, puB, puC])
  refine lin_step (i := 27) (d := some 41) (v := .int .i64 gf) rfl rfl (by kernel_rfl) (by kernel_rfl) rfl rfl (ord_call (f := 142) (args := #[pageV p, .int .i64 22, .int .i64 2]) (by kernel_rfl) ?_ (fun _ W hS => (Hgf.out W).mono fun _ _ h => ⟨h.1, GtS.call hS h.2⟩)) ?_
  · intro _; go_simp
  (try simp only [Act.put, puA, puB, puC])
  refine lin_step (i := 28) (d := some 42) (v := inoV y0) rfl rfl (by kernel_rfl) (by kernel_rfl) rfl rfl (ord_value (by kernel_rfl) ?_) ?_
  · (intro _ _ _; rw [HY.out]; go_simp) <;> rfl
  (try simp only [Act.put, puA, puB, puC])
  refine lin_turn (i := 29) (d := some 6) (fun u s => ∃ g, w.heap.size + 1 < g ∧ u = .pointer (some ⟨g, 0, none⟩) ∧ s = some (g, false)) rfl rfl (by kernel_rfl) (by kernel_rfl) rfl (by kernel_rfl) (⟨_, _, w.heap.size + 2, by omega, rfl, rfl⟩) (by kernel_rfl) (fun W hS => gives_to (v := .pointer (some ⟨W.heap.size, 0, none⟩)) (w' := W.alloc (.cells (inoL Ii.zero).toArray 47)) (by go_simp; rfl) ⟨some (W.heap.size, false), ⟨W.heap.size, hS.1.out.lt, rfl, rfl⟩, GtS.alloc hS.1⟩) ?_
  rintro _ _ ⟨g, hg, rfl, rfl⟩
  (try simp only [Act.put, puA, puB, puC])
  refine lin_turn (i := 30) (d := none) (fun u s => u = undef ∧ s = some (g, true)) rfl rfl (by kernel_rfl) (by kernel_rfl) rfl (by kernel_rfl) (⟨_, _, rfl, rfl⟩) (by kernel_rfl) (fun W hS => gives_store_row inoT hS.2.2 rfl rfl (inoL_one y0) (.tmp 6) (.tmp 42) rfl rfl rfl ⟨some (g, true), ⟨rfl, rfl⟩, GtS.put hS⟩) ?_
  rintro _ _ ⟨rfl, rfl⟩
  (try simp only [Act.put, puA, puB, puC])
  refine lin_done (by kernel_rfl) ?_
  intro W2 hS
  have S2 : Hid (BxS w p W2) := Lib.hid hS.1
  have R2 : Hid (RowAt W2 g (inoL ⟨gk, gp, gu, gl, gs, 0, 0, 0, 0, ge, gf⟩)) := Lib.hid (by rw [← HY.out]; exact hS.2.2)
  have HG := Lib.hid hg
  clear hS S hg HY
  go_wp2_with fail
  go_loopw [43] (fun i wr => ∃ k : Nat, k ≤ 4 ∧ i = .int .i64 (k : Int) ∧ BxS w p wr ∧ RowAt wr g (inoL ⟨gk, gp, gu, gl, gs, if k < 1 then 0 else ga, if k < 2 then 0 else gb, if k < 3 then 0 else gc, if k < 4 then 0 else gd, ge, gf⟩)) (fun i _ => 4 - (intOf i).toNat)
  case atStart => exact ⟨0, by omega, rfl, S2.out, R2.out⟩
  case round =>
    clear S2 R2
    obtain ⟨k, hk, rfl, hS, hR⟩ := hrel
    have hk : k = 0 ∨ k = 1 ∨ k = 2 ∨ k = 3 ∨ k = 4 := by omega
    rcases hk with rfl | rfl | rfl | rfl | rfl
    · have S2 := Lib.hid hS
      have R2 : Hid (RowAt wr g (inoL ⟨gk, gp, gu, gl, gs, 0, 0, 0, 0, ge, gf⟩)) := Lib.hid hR
      clear hS hR
      go_wp2_with (first
        | (with_reducible refine wpList_load_page S2.out.page rfl (.tmp 2) rfl rfl ?_)
        | (go_at_call 142; refine (Hga.out _).mono ?_; rintro e w' ⟨rfl, hb⟩; replace R2 := Lib.hid (RowAt.step R2.out hb); replace S2 := Lib.hid (S2.out.call hb); clear hb; have hcc := R2.out.cell 5 _ rfl; have hff := R2.out.frozen 5 (show 5 < 11 by decide)))
      have R3 : Hid (RowAt (w'.setCell ⟨g, 5, none⟩ (.int .i64 ga)) g (inoL ⟨gk, gp, gu, gl, gs, ga, 0, 0, 0, ge, gf⟩)) := Lib.hid (RowAt.setOne R2.out 5 (.int .i64 ga) (show 5 < 11 by decide))
      have S3 := Lib.hid (S2.out.setOut g 5 (.int .i64 ga) HG.out)
      clear S2 R2
      go_roundw
      case rel => exact ⟨1, by omega, rfl, S3.out, R3.out⟩
      case measure => simp [intOf]
    · have S2 := Lib.hid hS
      have R2 : Hid (RowAt wr g (inoL ⟨gk, gp, gu, gl, gs, ga, 0, 0, 0, ge, gf⟩)) := Lib.hid hR
      clear hS hR
      go_wp2_with (first
        | (with_reducible refine wpList_load_page S2.out.page rfl (.tmp 2) rfl rfl ?_)
        | (go_at_call 142; refine (Hgb.out _).mono ?_; rintro e w' ⟨rfl, hb⟩; replace R2 := Lib.hid (RowAt.step R2.out hb); replace S2 := Lib.hid (S2.out.call hb); clear hb; have hcc := R2.out.cell 6 _ rfl; have hff := R2.out.frozen 6 (show 6 < 11 by decide)))
      have R3 : Hid (RowAt (w'.setCell ⟨g, 6, none⟩ (.int .i64 gb)) g (inoL ⟨gk, gp, gu, gl, gs, ga, gb, 0, 0, ge, gf⟩)) := Lib.hid (RowAt.setOne R2.out 6 (.int .i64 gb) (show 6 < 11 by decide))
      have S3 := Lib.hid (S2.out.setOut g 6 (.int .i64 gb) HG.out)
      clear S2 R2
      go_roundw
      case rel => exact ⟨2, by omega, rfl, S3.out, R3.out⟩
      case measure => simp [intOf]
    · have S2 := Lib.hid hS
      have R2 : Hid (RowAt wr g (inoL ⟨gk, gp, gu, gl, gs, ga, gb, 0, 0, ge, gf⟩)) := Lib.hid hR
      clear hS hR
      go_wp2_with (first
        | (with_reducible refine wpList_load_page S2.out.page rfl (.tmp 2) rfl rfl ?_)
        | (go_at_call 142; refine (Hgc.out _).mono ?_; rintro e w' ⟨rfl, hb⟩; replace R2 := Lib.hid (RowAt.step R2.out hb); replace S2 := Lib.hid (S2.out.call hb); clear hb; have hcc := R2.out.cell 7 _ rfl; have hff := R2.out.frozen 7 (show 7 < 11 by decide)))
      have R3 : Hid (RowAt (w'.setCell ⟨g, 7, none⟩ (.int .i64 gc)) g (inoL ⟨gk, gp, gu, gl, gs, ga, gb, gc, 0, ge, gf⟩)) := Lib.hid (RowAt.setOne R2.out 7 (.int .i64 gc) (show 7 < 11 by decide))
      have S3 := Lib.hid (S2.out.setOut g 7 (.int .i64 gc) HG.out)
      clear S2 R2
      go_roundw
      case rel => exact ⟨3, by omega, rfl, S3.out, R3.out⟩
      case measure => simp [intOf]
    · have S2 := Lib.hid hS
      have R2 : Hid (RowAt wr g (inoL ⟨gk, gp, gu, gl, gs, ga, gb, gc, 0, ge, gf⟩)) := Lib.hid hR
      clear hS hR
      go_wp2_with (first
        | (with_reducible refine wpList_load_page S2.out.page rfl (.tmp 2) rfl rfl ?_)
        | (go_at_call 142; refine (Hgd.out _).mono ?_; rintro e w' ⟨rfl, hb⟩; replace R2 := Lib.hid (RowAt.step R2.out hb); replace S2 := Lib.hid (S2.out.call hb); clear hb; have hcc := R2.out.cell 8 _ rfl; have hff := R2.out.frozen 8 (show 8 < 11 by decide)))
      have R3 : Hid (RowAt (w'.setCell ⟨g, 8, none⟩ (.int .i64 gd)) g (inoL ⟨gk, gp, gu, gl, gs, ga, gb, gc, gd, ge, gf⟩)) := Lib.hid (RowAt.setOne R2.out 8 (.int .i64 gd) (show 8 < 11 by decide))
      have S3 := Lib.hid (S2.out.setOut g 8 (.int .i64 gd) HG.out)
      clear S2 R2
      go_roundw
      case rel => exact ⟨4, by omega, rfl, S3.out, R3.out⟩
      case measure => simp [intOf]
    · have S2 := Lib.hid hS
      have R2 : Hid (RowAt wr g (inoL ⟨gk, gp, gu, gl, gs, ga, gb, gc, gd, ge, gf⟩)) := Lib.hid hR
      clear hS hR
      go_wp2_with (first
        | (with_reducible refine wpList_load_rw inoT R2.out rfl rfl (.tmp 6) rfl rfl ?_)
        | ((with_reducible refine wpList_store_rw inoT (vs := inoL ⟨gk, gp, gu, gl, gs, ga, gb, gc, gd, ge, gf⟩) S2.out.out rfl rfl (inoL_one _) rfl (.tmp 4) (.tmp 57) rfl rfl ?_ ?_); (exact rfl)))
      exact bodyPost_ret (results_row1 inoT _ 4 rfl _ (S2.out.back _).1 rfl rfl) rfl ⟨rfl, (S2.out.back _).2⟩
theorem iget_1 (p : List UInt8) (w : World) (hp : p.length = 64) :
    Calls Tryz.prog 126 #[pageV p, .int .i64 1] w fun e w' => e = .returned (inoV (Ii.getI p 32)) ∧ Below w.heap.size w w' := by
  have HS := Lib.hid (bxS_box w p 47 hp)
  have Hgk := Lib.hid (fun (w : World) => get_any p 32 1 w hp (by decide) (by decide))
  have Hgp := Lib.hid (fun (w : World) => get_any p 34 2 w hp (by decide) (by decide))
  have Hgu := Lib.hid (fun (w : World) => get_any p 36 2 w hp (by decide) (by decide))
  have Hgl := Lib.hid (fun (w : World) => get_any p 38 2 w hp (by decide) (by decide))
  have Hgs := Lib.hid (fun (w : World) => get_any p 40 4 w hp (by decide) (by decide))
  have Hga := Lib.hid (fun (w : World) => get_any p 44 2 w hp (by decide) (by decide))
  have Hgb := Lib.hid (fun (w : World) => get_any p 46 2 w hp (by decide) (by decide))
  have Hgc := Lib.hid (fun (w : World) => get_any p 48 2 w hp (by decide) (by decide))
  have Hgd := Lib.hid (fun (w : World) => get_any p 50 2 w hp (by decide) (by decide))
  have Hge := Lib.hid (fun (w : World) => get_any p 52 2 w hp (by decide) (by decide))
  have Hgf := Lib.hid (fun (w : World) => get_any p 54 2 w hp (by decide) (by decide))
  have HE : Hid (Ii.getI p 32 = ⟨Pg.getN p 32 1, Pg.getN p 34 2, Pg.getN p 36 2, Pg.getN p 38 2, Pg.getN p 40 4, Pg.getN p 44 2, Pg.getN p 46 2, Pg.getN p 48 2, Pg.getN p 50 2, Pg.getN p 52 2, Pg.getN p 54 2⟩) := Lib.hid rfl
  rw [HE.out]
  clear HE hp
  generalize Pg.getN p 32 1 = gk at Hgk ⊢
  generalize Pg.getN p 34 2 = gp at Hgp ⊢
  generalize Pg.getN p 36 2 = gu at Hgu ⊢
  generalize Pg.getN p 38 2 = gl at Hgl ⊢
  generalize Pg.getN p 40 4 = gs at Hgs ⊢
  generalize Pg.getN p 44 2 = ga at Hga ⊢
  generalize Pg.getN p 46 2 = gb at Hgb ⊢
  generalize Pg.getN p 48 2 = gc at Hgc ⊢
  generalize Pg.getN p 50 2 = gd at Hgd ⊢
  generalize Pg.getN p 52 2 = ge at Hge ⊢
  generalize Pg.getN p 54 2 = gf at Hgf ⊢
  obtain ⟨y0, HY⟩ : ∃ y0 : Ino, Hid (y0 = ⟨gk, gp, gu, gl, gs, 0, 0, 0, 0, ge, gf⟩) := ⟨_, Lib.hid rfl⟩
  unfold pageV
  go_enter Tryz.func126, Tryz.ntmps126
  go_wp2_with fail
  refine (isThere_yes _ _ (by decide) (by decide)).mono ?_
  rintro e w1 ⟨rfl, hw⟩
  have S : Hid (BxS w p w1) := Lib.hid (by rw [← hw]; exact HS.out)
  clear hw HS
  go_wp2_with fail
  refine wp_region_lin (GtS w p y0) (fun i => i == 29 || i == 30) (fun i => [pageV p, .int .i64 32, .int .i64 32, .int .i64 gk, pageV p, .int .i64 32, .int .i64 34, .int .i64 gp, pageV p, .int .i64 32, .int .i64 36, .int .i64 gu, pageV p, .int .i64 32, .int .i64 38, .int .i64 gl, pageV p, .int .i64 32, .int .i64 40, .int .i64 gs, pageV p, .int .i64 32, .int .i64 52, .int .i64 ge, pageV p, .int .i64 32, .int .i64 54, .int .i64 gf, inoV y0].getD i undef) (none) (by kernel_rfl) (by kernel_rfl) (⟨BxS.drew S.out, trivial⟩) ?_
  refine lin_step (i := 0) (d := some 14) (v := pageV p) rfl rfl (by kernel_rfl) (by kernel_rfl) rfl rfl (ord_page (by kernel_rfl) (.tmp 2) rfl rfl (fun _ _ hS => hS.1.page)) ?_
  (try simp only [Act.put, puA, puB, puC])
  refine lin_step (i := 1) (d := some 15) (v := .int .i64 32) rfl rfl (by kernel_rfl) (by kernel_rfl) rfl rfl (ord_value (by kernel_rfl) ?_) ?_
  · (intro _ _ _; go_simp) <;> kernel_rfl
  (try simp only [Act.put, puA, puB, puC])
  refine lin_step (i := 2) (d := some 16) (v := .int .i64 32) rfl rfl (by kernel_rfl) (by kernel_rfl) rfl rfl (ord_value (by kernel_rfl) ?_) ?_
  · (intro _ _ _; go_simp) <;> kernel_rfl
  (try simp only [Act.put, puA, puB, puC])
  refine lin_step (i := 3) (d := some 17) (v := .int .i64 gk) rfl rfl (by kernel_rfl) (by kernel_rfl) rfl rfl (ord_call (f := 142) (args := #[pageV p, .int .i64 32, .int .i64 1]) (by kernel_rfl) ?_ (fun _ W hS => (Hgk.out W).mono fun _ _ h => ⟨h.1, GtS.call hS h.2⟩)) ?_
  · intro _; go_simp
  (try simp only [Act.put, puA, puB, puC])
  refine lin_step (i := 4) (d := some 18) (v := pageV p) rfl rfl (by kernel_rfl) (by kernel_rfl) rfl rfl (ord_page (by kernel_rfl) (.tmp 2) rfl rfl (fun _ _ hS => hS.1.page)) ?_
  (try simp only [Act.put, puA, puB, puC])
  refine lin_step (i := 5) (d := some 19) (v := .int .i64 32) rfl rfl (by kernel_rfl) (by kernel_rfl) rfl rfl (ord_value (by kernel_rfl) ?_) ?_
  · (intro _ _ _; go_simp) <;> kernel_rfl
  (try simp only [Act.put, puA, puB, puC])
  refine lin_step (i := 6) (d := some 20) (v := .int .i64 34) rfl rfl (by kernel_rfl) (by kernel_rfl) rfl rfl (ord_value (by kernel_rfl) ?_) ?_
  · (intro _ _ _; go_simp) <;> kernel_rfl
  (try simp only [Act.put, puA, puB, puC])
  refine lin_step (i := 7) (d := some 21) (v := .int .i64 gp) rfl rfl (by kernel_rfl) (by kernel_rfl) rfl rfl (ord_call (f := 142) (args := #[pageV p, .int .i64 34, .int .i64 2]) (by kernel_rfl) ?_ (fun _ W hS => (Hgp.out W).mono fun _ _ h => ⟨h.1, GtS.call hS h.2⟩)) ?_
  · intro _; go_simp
  (try simp only [Act.put, puA, puB, puC])
  refine lin_step (i := 8) (d := some 22) (v := pageV p) rfl rfl (by kernel_rfl) (by kernel_rfl) rfl rfl (ord_page (by kernel_rfl) (.tmp 2) rfl rfl (fun _ _ hS => hS.1.page)) ?_
  (try simp only [Act.put, puA, puB, puC])
  refine lin_step (i := 9) (d := some 23) (v := .int .i64 32) rfl rfl (by kernel_rfl) (by kernel_rfl) rfl rfl (ord_value (by kernel_rfl) ?_) ?_
  · (intro _ _ _; go_simp) <;> kernel_rfl
  (try simp only [Act.put, puA, puB, puC])
  refine lin_step (i := 10) (d := some 24) (v := .int .i64 36) rfl rfl (by kernel_rfl) (by kernel_rfl) rfl rfl (ord_value (by kernel_rfl) ?_) ?_
  · (intro _ _ _; go_simp) <;> kernel_rfl
  (try simp only [Act.put, puA, puB, puC])
  refine lin_step (i := 11) (d := some 25) (v := .int .i64 gu) rfl rfl (by kernel_rfl) (by kernel_rfl) rfl rfl (ord_call (f := 142) (args := #[pageV p, .int .i64 36, .int .i64 2]) (by kernel_rfl) ?_ (fun _ W hS => (Hgu.out W).mono fun _ _ h => ⟨h.1, GtS.call hS h.2⟩)) ?_
  · intro _; go_simp
  (try simp only [Act.put, puA, puB, puC])
  refine lin_step (i := 12) (d := some 26) (v := pageV p) rfl rfl (by kernel_rfl) (by kernel_rfl) rfl rfl (ord_page (by kernel_rfl) (.tmp 2) rfl rfl (fun _ _ hS => hS.1.page)) ?_
  (try simp only [Act.put, puA, puB, puC])
  refine lin_step (i := 13) (d := some 27) (v := .int .i64 32) rfl rfl (by kernel_rfl) (by kernel_rfl) rfl rfl (ord_value (by kernel_rfl) ?_) ?_
  · (intro _ _ _; go_simp) <;> kernel_rfl
  (try simp only [Act.put, puA, puB, puC])
  refine lin_step (i := 14) (d := some 28) (v := .int .i64 38) rfl rfl (by kernel_rfl) (by kernel_rfl) rfl rfl (ord_value (by kernel_rfl) ?_) ?_
  · (intro _ _ _; go_simp) <;> kernel_rfl
  (try simp only [Act.put, puA, puB, puC])
  refine lin_step (i := 15) (d := some 29) (v := .int .i64 gl) rfl rfl (by kernel_rfl) (by kernel_rfl) rfl rfl (ord_call (f := 142) (args := #[pageV p, .int .i64 38, .int .i64 2]) (by kernel_rfl) ?_ (fun _ W hS => (Hgl.out W).mono fun _ _ h => ⟨h.1, GtS.call hS h.2⟩)) ?_
  · intro _; go_simp
  (try simp only [Act.put, puA, puB, puC])
  refine lin_step (i := 16) (d := some 30) (v := pageV p) rfl rfl (by kernel_rfl) (by kernel_rfl) rfl rfl (ord_page (by kernel_rfl) (.tmp 2) rfl rfl (fun _ _ hS => hS.1.page)) ?_
  (try simp only [Act.put, puA, puB, puC])
  refine lin_step (i := 17) (d := some 31) (v := .int .i64 32) rfl rfl (by kernel_rfl) (by kernel_rfl) rfl rfl (ord_value (by kernel_rfl) ?_) ?_
  · (intro _ _ _; go_simp) <;> kernel_rfl
  (try simp only [Act.put, puA, puB, puC])
  refine lin_step (i := 18) (d := some 32) (v := .int .i64 40) rfl rfl (by kernel_rfl) (by kernel_rfl) rfl rfl (ord_value (by kernel_rfl) ?_) ?_
  · (intro _ _ _; go_simp) <;> kernel_rfl
  (try simp only [Act.put, puA, puB, puC])
  refine lin_step (i := 19) (d := some 33) (v := .int .i64 gs) rfl rfl (by kernel_rfl) (by kernel_rfl) rfl rfl (ord_call (f := 142) (args := #[pageV p, .int .i64 40, .int .i64 4]) (by kernel_rfl) ?_ (fun _ W hS => (Hgs.out W).mono fun _ _ h => ⟨h.1, GtS.call hS h.2⟩)) ?_
  · intro _; go_simp
  (try simp only [Act.put, puA, puB, puC])
  refine lin_step (i := 20) (d := some 34) (v := pageV p) rfl rfl (by kernel_rfl) (by kernel_rfl) rfl rfl (ord_page (by kernel_rfl) (.tmp 2) rfl rfl (fun _ _ hS => hS.1.page)) ?_
  (try simp only [Act.put, puA, puB, puC])
  refine lin_step (i := 21) (d := some 35) (v := .int .i64 32) rfl rfl (by kernel_rfl) (by kernel_rfl) rfl rfl (ord_value (by kernel_rfl) ?_) ?_
  · (intro _ _ _; go_simp) <;> kernel_rfl
  (try simp only [Act.put, puA, puB, puC])
  refine lin_step (i := 22) (d := some 36) (v := .int .i64 52) rfl rfl (by kernel_rfl) (by kernel_rfl) rfl rfl (ord_value (by kernel_rfl) ?_) ?_
  · (intro _ _ _; go_simp) <;> kernel_rfl
  (try simp only [Act.put, puA, puB, puC])
  refine lin_step (i := 23) (d := some 37) (v := .int .i64 ge) rfl rfl (by kernel_rfl) (by kernel_rfl) rfl rfl (ord_call (f := 142) (args := #[pageV p, .int .i64 52, .int .i64 2]) (by kernel_rfl) ?_ (fun _ W hS => (Hge.out W).mono fun _ _ h => ⟨h.1, GtS.call hS h.2⟩)) ?_
  · intro _; go_simp
  (try simp only [Act.put, puA, puB, puC])
  refine lin_step (i := 24) (d := some 38) (v := pageV p) rfl rfl (by kernel_rfl) (by kernel_rfl) rfl rfl (ord_page (by kernel_rfl) (.tmp 2) rfl rfl (fun _ _ hS => hS.1.page)) ?_
  (try simp only [Act.put, puA, puB, puC])
  refine lin_step (i := 25) (d := some 39) (v := .int .i64 32) rfl rfl (by kernel_rfl) (by kernel_rfl) rfl rfl (ord_value (by kernel_rfl) ?_) ?_
  · (intro _ _ _; go_simp) <;> kernel_rfl
  (try simp only [Act.put, puA, puB, puC])
  refine lin_step (i := 26) (d := some 40) (v := .int .i64 54) rfl rfl (by kernel_rfl) (by kernel_rfl) rfl rfl (ord_value (by kernel_rfl) ?_) ?_
  · (intro _ _ _; go_simp) <;> kernel_rfl
  (try simp only [Act.put, puA, puB, puC])
  refine lin_step (i := 27) (d := some 41) (v := .int .i64 gf) rfl rfl (by kernel_rfl) (by kernel_rfl) rfl rfl (ord_call (f := 142) (args := #[pageV p, .int .i64 54, .int .i64 2]) (by kernel_rfl) ?_ (fun _ W hS => (Hgf.out W).mono fun _ _ h => ⟨h.1, GtS.call hS h.2⟩)) ?_
  · intro _; go_simp
  (try simp only [Act.put, puA, puB, puC])
  refine lin_step (i := 28) (d := some 42) (v := inoV y0) rfl rfl (by kernel_rfl) (by kernel_rfl) rfl rfl (ord_value (by kernel_rfl) ?_) ?_
  · (intro _ _ _; rw [HY.out]; go_simp) <;> rfl
  (try simp only [Act.put, puA, puB, puC])
  refine lin_turn (i := 29) (d := some 6) (fun u s => ∃ g, w.heap.size + 1 < g ∧ u = .pointer (some ⟨g, 0, none⟩) ∧ s = some (g, false)) rfl rfl (by kernel_rfl) (by kernel_rfl) rfl (by kernel_rfl) (⟨_, _, w.heap.size + 2, by omega, rfl, rfl⟩) (by kernel_rfl) (fun W hS => gives_to (v := .pointer (some ⟨W.heap.size, 0, none⟩)) (w' := W.alloc (.cells (inoL Ii.zero).toArray 47)) (by go_simp; rfl) ⟨some (W.heap.size, false), ⟨W.heap.size, hS.1.out.lt, rfl, rfl⟩, GtS.alloc hS.1⟩) ?_
  rintro _ _ ⟨g, hg, rfl, rfl⟩
  (try simp only [Act.put, puA, puB, puC])
  refine lin_turn (i := 30) (d := none) (fun u s => u = undef ∧ s = some (g, true)) rfl rfl (by kernel_rfl) (by kernel_rfl) rfl (by kernel_rfl) (⟨_, _, rfl, rfl⟩) (by kernel_rfl) (fun W hS => gives_store_row inoT hS.2.2 rfl rfl (inoL_one y0) (.tmp 6) (.tmp 42) rfl rfl rfl ⟨some (g, true), ⟨rfl, rfl⟩, GtS.put hS⟩) ?_
  rintro _ _ ⟨rfl, rfl⟩
  (try simp only [Act.put, puA, puB, puC])
  refine lin_done (by kernel_rfl) ?_
  intro W2 hS
  have S2 : Hid (BxS w p W2) := Lib.hid hS.1
  have R2 : Hid (RowAt W2 g (inoL ⟨gk, gp, gu, gl, gs, 0, 0, 0, 0, ge, gf⟩)) := Lib.hid (by rw [← HY.out]; exact hS.2.2)
  have HG := Lib.hid hg
  clear hS S hg HY
  go_wp2_with fail
  go_loopw [43] (fun i wr => ∃ k : Nat, k ≤ 4 ∧ i = .int .i64 (k : Int) ∧ BxS w p wr ∧ RowAt wr g (inoL ⟨gk, gp, gu, gl, gs, if k < 1 then 0 else ga, if k < 2 then 0 else gb, if k < 3 then 0 else gc, if k < 4 then 0 else gd, ge, gf⟩)) (fun i _ => 4 - (intOf i).toNat)
  case atStart => exact ⟨0, by omega, rfl, S2.out, R2.out⟩
  case round =>
    clear S2 R2
    obtain ⟨k, hk, rfl, hS, hR⟩ := hrel
    have hk : k = 0 ∨ k = 1 ∨ k = 2 ∨ k = 3 ∨ k = 4 := by omega
    rcases hk with rfl | rfl | rfl | rfl | rfl
    · have S2 := Lib.hid hS
      have R2 : Hid (RowAt wr g (inoL ⟨gk, gp, gu, gl, gs, 0, 0, 0, 0, ge, gf⟩)) := Lib.hid hR
      clear hS hR
      go_wp2_with (first
        | (with_reducible refine wpList_load_page S2.out.page rfl (.tmp 2) rfl rfl ?_)
        | (go_at_call 142; refine (Hga.out _).mono ?_; rintro e w' ⟨rfl, hb⟩; replace R2 := Lib.hid (RowAt.step R2.out hb); replace S2 := Lib.hid (S2.out.call hb); clear hb; have hcc := R2.out.cell 5 _ rfl; have hff := R2.out.frozen 5 (show 5 < 11 by decide)))
      have R3 : Hid (RowAt (w'.setCell ⟨g, 5, none⟩ (.int .i64 ga)) g (inoL ⟨gk, gp, gu, gl, gs, ga, 0, 0, 0, ge, gf⟩)) := Lib.hid (RowAt.setOne R2.out 5 (.int .i64 ga) (show 5 < 11 by decide))
      have S3 := Lib.hid (S2.out.setOut g 5 (.int .i64 ga) HG.out)
      clear S2 R2
      go_roundw
      case rel => exact ⟨1, by omega, rfl, S3.out, R3.out⟩
      case measure => simp [intOf]
    · have S2 := Lib.hid hS
      have R2 : Hid (RowAt wr g (inoL ⟨gk, gp, gu, gl, gs, ga, 0, 0, 0, ge, gf⟩)) := Lib.hid hR
      clear hS hR
      go_wp2_with (first
        | (with_reducible refine wpList_load_page S2.out.page rfl (.tmp 2) rfl rfl ?_)
        | (go_at_call 142; refine (Hgb.out _).mono ?_; rintro e w' ⟨rfl, hb⟩; replace R2 := Lib.hid (RowAt.step R2.out hb); replace S2 := Lib.hid (S2.out.call hb); clear hb; have hcc := R2.out.cell 6 _ rfl; have hff := R2.out.frozen 6 (show 6 < 11 by decide)))
      have R3 : Hid (RowAt (w'.setCell ⟨g, 6, none⟩ (.int .i64 gb)) g (inoL ⟨gk, gp, gu, gl, gs, ga, gb, 0, 0, ge, gf⟩)) := Lib.hid (RowAt.setOne R2.out 6 (.int .i64 gb) (show 6 < 11 by decide))
      have S3 := Lib.hid (S2.out.setOut g 6 (.int .i64 gb) HG.out)
      clear S2 R2
      go_roundw
      case rel => exact ⟨2, by omega, rfl, S3.out, R3.out⟩
      case measure => simp [intOf]
    · have S2 := Lib.hid hS
      have R2 : Hid (RowAt wr g (inoL ⟨gk, gp, gu, gl, gs, ga, gb, 0, 0, ge, gf⟩)) := Lib.hid hR
      clear hS hR
      go_wp2_with (first
        | (with_reducible refine wpList_load_page S2.out.page rfl (.tmp 2) rfl rfl ?_)
        | (go_at_call 142; refine (Hgc.out _).mono ?_; rintro e w' ⟨rfl, hb⟩; replace R2 := Lib.hid (RowAt.step R2.out hb); replace S2 := Lib.hid (S2.out.call hb); clear hb; have hcc := R2.out.cell 7 _ rfl; have hff := R2.out.frozen 7 (show 7 < 11 by decide)))
      have R3 : Hid (RowAt (w'.setCell ⟨g, 7, none⟩ (.int .i64 gc)) g (inoL ⟨gk, gp, gu, gl, gs, ga, gb, gc, 0, ge, gf⟩)) := Lib.hid (RowAt.setOne R2.out 7 (.int .i64 gc) (show 7 < 11 by decide))
      have S3 := Lib.hid (S2.out.setOut g 7 (.int .i64 gc) HG.out)
      clear S2 R2
      go_roundw
      case rel => exact ⟨3, by omega, rfl, S3.out, R3.out⟩
      case measure => simp [intOf]
    · have S2 := Lib.hid hS
      have R2 : Hid (RowAt wr g (inoL ⟨gk, gp, gu, gl, gs, ga, gb, gc, 0, ge, gf⟩)) := Lib.hid hR
      clear hS hR
      go_wp2_with (first
        | (with_reducible refine wpList_load_page S2.out.page rfl (.tmp 2) rfl rfl ?_)
        | (go_at_call 142; refine (Hgd.out _).mono ?_; rintro e w' ⟨rfl, hb⟩; replace R2 := Lib.hid (RowAt.step R2.out hb); replace S2 := Lib.hid (S2.out.call hb); clear hb; have hcc := R2.out.cell 8 _ rfl; have hff := R2.out.frozen 8 (show 8 < 11 by decide)))
      have R3 : Hid (RowAt (w'.setCell ⟨g, 8, none⟩ (.int .i64 gd)) g (inoL ⟨gk, gp, gu, gl, gs, ga, gb, gc, gd, ge, gf⟩)) := Lib.hid (RowAt.setOne R2.out 8 (.int .i64 gd) (show 8 < 11 by decide))
      have S3 := Lib.hid (S2.out.setOut g 8 (.int .i64 gd) HG.out)
      clear S2 R2
      go_roundw
      case rel => exact ⟨4, by omega, rfl, S3.out, R3.out⟩
      case measure => simp [intOf]
    · have S2 := Lib.hid hS
      have R2 : Hid (RowAt wr g (inoL ⟨gk, gp, gu, gl, gs, ga, gb, gc, gd, ge, gf⟩)) := Lib.hid hR
      clear hS hR
      go_wp2_with (first
        | (with_reducible refine wpList_load_rw inoT R2.out rfl rfl (.tmp 6) rfl rfl ?_)
        | ((with_reducible refine wpList_store_rw inoT (vs := inoL ⟨gk, gp, gu, gl, gs, ga, gb, gc, gd, ge, gf⟩) S2.out.out rfl rfl (inoL_one _) rfl (.tmp 4) (.tmp 57) rfl rfl ?_ ?_); (exact rfl)))
      exact bodyPost_ret (results_row1 inoT _ 4 rfl _ (S2.out.back _).1 rfl rfl) rfl ⟨rfl, (S2.out.back _).2⟩
end

section
open Dk (zeros zeros_length)
open Go.RowKit
open Ii (Ino)
end

section
open Go.RowKit Go.Maps
open Dk (zeros zeros_length)
open Ii (Ino)
structure Lo (L : List Nat) (w0 : World) (l : List (Nat × List Value)) (w : World) : Prop where
  row : ∀ x ∈ l, RowAt w x.1 x.2 ∧ w0.heap.size ≤ x.1 ∧ x.1 < w.heap.size
  ne : (l.map (·.1)).Nodup
  only : Only L w0 w
  low : ∀ k ∈ L, k < w0.heap.size
theorem Lo.get {L : List Nat} {w0 w : World} {l : List (Nat × List Value)} (h : Lo L w0 l w) (k : Nat) (x : Nat × List Value) (hx : l[k]? = some x) : RowAt w x.1 x.2 := (h.row x (List.mem_of_getElem? hx)).1
theorem Lo.lt {L : List Nat} {w0 w : World} {l : List (Nat × List Value)} (h : Lo L w0 l w) (k : Nat) (x : Nat × List Value) (hx : l[k]? = some x) : x.1 < w.heap.size := (h.row x (List.mem_of_getElem? hx)).2.2
theorem Lo.start {L : List Nat} (w : World) (hL : ∀ k ∈ L, k < w.heap.size) : Lo L w [] w := ⟨fun x hx => (by cases hx), List.nodup_nil, Only.refl L w, hL⟩
theorem Lo.none {L : List Nat} {w0 w : World} (h : Only L w0 w) (hL : ∀ k ∈ L, k < w0.heap.size) : Lo L w0 [] w := ⟨fun x hx => (by cases hx), List.nodup_nil, h, hL⟩
theorem Lo.fresh {L : List Nat} {w0 w : World} {l : List (Nat × List Value)} (h : Lo L w0 l w) {B : Nat} (hB : w.heap.size ≤ B) : ((l ++ [(B, ([] : List Value))]).map (·.1)).Nodup := by
  rw [List.map_append, List.nodup_append]
  refine ⟨h.ne, by simp, fun a ha c hc => ?_⟩
  obtain ⟨x, hx, rfl⟩ := List.mem_map.1 ha
  simp at hc
  have := (h.row x hx).2.2
  omega
theorem Lo.alloc {L : List Nat} {w0 w : World} {l : List (Nat × List Value)} (h : Lo L w0 l w) (B : Nat) (hB : w.heap.size = B) (vs : List Value) (t : TypeId) : Lo L w0 (l ++ [(B, vs)]) (w.alloc (.cells vs.toArray t)) := by
 subst hB
 exact {
  row := fun x hx => by
    rcases List.mem_append.1 hx with hx | hx
    · obtain ⟨h1, h2, h3⟩ := h.row x hx
      exact ⟨h1.alloc _, h2, by simp; omega⟩
    · rw [List.mem_singleton] at hx
      subst hx
      exact ⟨rowAt_new w vs t, h.only.size, by simp⟩
  ne := by
    have := h.fresh (Nat.le_refl w.heap.size)
    simpa using this
  only := h.only.alloc _
  low := h.low }
theorem Lo.skip {L : List Nat} {w0 w : World} {l : List (Nat × List Value)} (h : Lo L w0 l w) (o : Obj) : Lo L w0 l (w.alloc o) where
  row := fun x hx => by
    obtain ⟨h1, h2, h3⟩ := h.row x hx
    exact ⟨h1.alloc _, h2, by simp; omega⟩
  ne := h.ne
  only := h.only.alloc _
  low := h.low
theorem Lo.call {L L' : List Nat} {w0 w w' : World} {l : List (Nat × List Value)} (h : Lo L w0 l w) (ho : Only L' w w') (hL : ∀ k ∈ L', k ∈ L) : Lo L w0 l w' where
  row := fun x hx => by
    obtain ⟨h1, h2, h3⟩ := h.row x hx
    refine ⟨h1.block (ho.block _ h3 (fun q => ?_)), h2, Nat.lt_of_lt_of_le h3 ho.size⟩
    have := h.low _ (hL _ q)
    omega
  ne := h.ne
  only := h.only.via ho (fun i hi => Or.inl (hL i hi))
  low := h.low
theorem Lo.below {L : List Nat} {w0 w w' : World} {l : List (Nat × List Value)} (h : Lo L w0 l w) (hb : Below w.heap.size w w') : Lo L w0 l w' :=
  h.call (L' := []) (Only.below hb) (fun k hk => by cases hk)
theorem Lo.drewN {L : List Nat} {w0 w : World} {l : List (Nat × List Value)} (h : Lo L w0 l w) (n : Nat) : Lo L w0 l (w.drewN n) := h.below (below_drewN _ _)
theorem Lo.drew {L : List Nat} {w0 w : World} {l : List (Nat × List Value)} (h : Lo L w0 l w) : Lo L w0 l w.drew := h.below ((Below.refl _ _).drew)
theorem Lo.made {L : List Nat} {w0 w W2 : World} {l : List (Nat × List Value)} {vs : List Value} (h : Lo L w0 l w) (hR : RowAt W2 w.heap.size vs) (hb : Below w.heap.size w W2) (hz : W2.heap.size = w.heap.size + 1) : Lo L w0 (l ++ [(w.heap.size, vs)]) W2 where
  row := fun x hx => by
    rcases List.mem_append.1 hx with hx | hx
    · exact (h.below hb).row x hx
    · rw [List.mem_singleton] at hx
      subst hx
      exact ⟨hR, h.only.size, by rw [hz]; exact Nat.lt_succ_self _⟩
  ne := by
    have := h.fresh (Nat.le_refl w.heap.size)
    simpa using this
  only := (h.below hb).only
  low := h.low
theorem Lo.madeB {L : List Nat} {w0 w W2 : World} {l : List (Nat × List Value)} {vs : List Value} (h : Lo L w0 l w) (B : Nat) (hB : w.heap.size = B) (hR : RowAt W2 w.heap.size vs) (hb : Below w.heap.size w W2) (hz : W2.heap.size = w.heap.size + 1) : Lo L w0 (l ++ [(B, vs)]) W2 := by
  subst hB
  exact h.made hR hb hz
theorem Lo.put {L : List Nat} {w0 w : World} {l : List (Nat × List Value)} (h : Lo L w0 l w) (k : Nat) (x : Nat × List Value) (hx : l[k]? = some x) (us : List Value) (hl : us.length = x.2.length) : Lo L w0 (l.set k (x.1, us)) (w.setCells x.1 0 us) where
  row := fun y hy => by
    obtain ⟨hk, hke⟩ := List.getElem?_eq_some_iff.1 hx
    obtain ⟨j, hj, rfl⟩ := List.getElem_of_mem hy
    rw [List.length_set] at hj
    rw [List.getElem_set, heap_setCells]
    by_cases e : k = j
    · subst e
      rw [if_pos rfl]
      obtain ⟨h1, h2, h3⟩ := h.row x (List.mem_of_getElem? hx)
      exact ⟨h1.put us hl, h2, h3⟩
    · rw [if_neg e]
      obtain ⟨h1, h2, h3⟩ := h.row l[j] (List.getElem_mem hj)
      refine ⟨h1.put_other _ _ _ (fun q => ?_), h2, h3⟩
      have hn := List.pairwise_iff_getElem.1 h.ne
      have e1 : (l.map (·.1))[k]'(by simpa using hk) = (l.map (·.1))[j]'(by simpa using hj) := by
        simp only [List.getElem_map]
        rw [hke]; exact q.symm
      rcases Nat.lt_or_ge k j with c | c
      · exact absurd e1 (hn k j _ _ c)
      · exact absurd e1.symm (hn j k _ _ (by omega))
  ne := by
    obtain ⟨hk, hke⟩ := List.getElem?_eq_some_iff.1 hx
    have : (l.set k (x.1, us)).map (·.1) = l.map (·.1) := by
      rw [List.map_set]
      apply List.ext_getElem
      · simp
      · intro j h1 h2
        rw [List.getElem_set]
        split
        · rename_i e; subst e; simp [hke]
        · rfl
    rw [this]; exact h.ne
  only := by
    obtain ⟨h1, h2, h3⟩ := h.row x (List.mem_of_getElem? hx)
    exact h.only.via ((Only.refl [x.1] w).setCells x.1 (by simp) us 0 w) (fun i hi => by rw [List.mem_singleton] at hi; subst hi; exact Or.inr h2)
  low := h.low
theorem Lo.cut {L : List Nat} {w0 w : World} {l : List (Nat × List Value)} (h : Lo L w0 l w) (k : Nat) : Lo L w0 (l.take k) w where
  row := fun x hx => h.row x (List.mem_of_mem_take hx)
  ne := by
    rw [List.map_take]
    exact h.ne.sublist (List.take_sublist _ _)
  only := h.only
  low := h.low
theorem RowAt.page {w : World} {b : Nat} {p : List UInt8} (h : RowAt w b (byteVals p)) (hp : p.length = 64) : PageAt w b p := ⟨hp, h.range, by have := h.free; rwa [byteVals_length, hp] at this⟩
theorem PageAt.rowAt {w : World} {b : Nat} {p : List UInt8} (h : PageAt w b p) : RowAt w b (byteVals p) := ⟨h.range, by rw [byteVals_length, h.len]; exact h.free⟩
theorem Lo.ctx {L : List Nat} {w0 w : World} {l : List (Nat × List Value)} {B : Nat} {b : Blk} {s : Sto} {n I : Int} (h : Lo [] w0 l w) (c : Ctx w0 B b s n I) : Ctx w B b s n I := c.only h.only (by simp) (by simp)
theorem Lo.bel {w0 w : World} {l : List (Nat × List Value)} (h : Lo [] w0 l w) : Below w0.heap.size w0 w := ⟨h.only.os, h.only.tape, h.only.output, h.only.size, fun k hk => h.only.block k hk (by simp)⟩
theorem Lo.store {w0 w : World} {l : List (Nat × List Value)} {b : Blk} {s : Sto} (h : Lo [] w0 l w) (c : StoreAt w0 b s) : StoreAt w b s := c.only h.only (by simp)
theorem RowAt.plan {w : World} {B st : Nat} {n I : Int} {vs : List Value} (h : RowAt w B (.pointer (some ⟨st, 0, none⟩) :: .int .i64 n :: .int .i64 I :: vs)) : w.rangeAt B 1 (planL n I) := by
  intro j v hv
  have h2 : (Value.pointer (some ⟨st, 0, none⟩) :: Value.int .i64 n :: Value.int .i64 I :: vs)[1 + j]? = some v := by
    match j, hv with
    | 0, hv => exact hv
    | 1, hv => exact hv
    | n + 2, hv => simp [planL] at hv
  have := h.range (1 + j) v h2
  rwa [Nat.zero_add] at this
theorem RowAt.base {w : World} {B st : Nat} {n I : Int} {vs : List Value} (h : RowAt w B (.pointer (some ⟨st, 0, none⟩) :: .int .i64 n :: .int .i64 I :: vs)) : w.rangeAt B 0 (baseL st n I) := by
  intro j v hv
  have h2 : (Value.pointer (some ⟨st, 0, none⟩) :: Value.int .i64 n :: Value.int .i64 I :: vs)[j]? = some v := by
    match j, hv with
    | 0, hv => exact hv
    | 1, hv => exact hv
    | 2, hv => exact hv
    | n + 3, hv => simp [baseL] at hv
  have := h.range j v h2
  rwa [Nat.zero_add] at this ⊢
theorem wpList_load_plan {ops : Array Oper} {rest : List Oper} {op : Oper} {a : Act} {Q : Exit → Act → World → Prop} {w : World} {B o : Nat} {n I : Int} (k : w.rangeAt B o (planL n I)) (hgd : op.guard = none) (u : Operand) (ho : op.op = .load 68 u)
    (hx : a.eval u = .pointer (some ⟨B, o, none⟩)) (hn : wpList Tryz.prog ops Q rest (a.put op.dst (planV n I)) w) : wpList Tryz.prog ops Q (op :: rest) a w :=
  wpList_load_mid hgd 68 u ho B o hx _ _ k Tryz.underlying68 rfl (by kernel_rfl) hn
theorem wpList_load_base {ops : Array Oper} {rest : List Oper} {op : Oper} {a : Act} {Q : Exit → Act → World → Prop} {w : World} {B o st : Nat} {n I : Int} (k : w.rangeAt B o (baseL st n I)) (hgd : op.guard = none) (u : Operand) (ho : op.op = .load 70 u)
    (hx : a.eval u = .pointer (some ⟨B, o, none⟩)) (hn : wpList Tryz.prog ops Q rest (a.put op.dst (baseV st n I)) w) : wpList Tryz.prog ops Q (op :: rest) a w :=
  wpList_load_mid hgd 70 u ho B o hx _ _ k Tryz.underlying70 rfl (by kernel_rfl) hn
def exV {α : Type} (f : α → Value) (z : Value) : Except Int α → Value
  | .ok a => .tuple #[f a, .int .i64 0]
  | .error e => .tuple #[z, .int .i64 e]
theorem iget_any (p : List UInt8) (i : Int) (w : World) (hp : p.length = 64) : Calls Tryz.prog 126 #[pageV p, .int .i64 ((i - 1) % 2)] w fun e w' => e = .returned (inoV (Ii.getI p (Fs.halfAt i))) ∧ Below w.heap.size w w' := by
  unfold Fs.halfAt
  have : (i - 1) % 2 = 0 ∨ (i - 1) % 2 = 1 := by omega
  rcases this with e | e <;> rw [e]
  · exact iget_0 p w hp
  · exact iget_1 p w hp
theorem iput_any (p : List UInt8) (i : Int) (x : Ino) (w : World) (hp : p.length = 64) : Calls Tryz.prog 84 #[pageV p, .int .i64 ((i - 1) % 2), inoV x] w fun e w' => e = .returned (pageV (Ii.putN p (Fs.halfAt i) x)) ∧ Below w.heap.size w w' := by
  unfold Fs.halfAt
  have : (i - 1) % 2 = 0 ∨ (i - 1) % 2 = 1 := by omega
  rcases this with e | e <;> rw [e]
  · exact put_0 p x w hp
  · exact put_1 p x w hp
end

section
open Go.RowKit Go.Maps
open Dk (zeros zeros_length)
open Ii (Ino)
theorem base_box (w : World) (st : Nat) (n I : Int) : Lo [] w [(w.heap.size, baseL st n I)] (w.alloc (.cells #[.pointer (some ⟨st, 0, none⟩), .int .i64 n, .int .i64 I] 70)) :=
  (Lo.start w (by simp)).alloc _ rfl (baseL st n I) _
theorem tbl_ok {s : Sto} {n I i : Int} (h : Vs s n I) (h1 : 1 ≤ i) (h2 : i ≤ I) : okP n (43 + (i - 1) / 2) ∧ (43 + (i - 1) / 2).toNat = Fs.tbl i := by
  obtain ⟨b1, b2, b3, b4, b5, b6⟩ := h.bd
  unfold Pl.dataN at b4
  exact ⟨⟨by omega, by omega, by omega⟩, rfl⟩
theorem binode_no {w : World} {b : Blk} {s : Sto} {n I : Int} (v : Vs s n I) (i : Int) (h0 : i < 1 ∨ I < i) : Calls Tryz.prog 80 #[baseV b.s n I, .int .i64 i] w fun e w' => e = .returned (.tuple #[inoV Ii.zero, .int .i64 22]) ∧ Below w.heap.size w w' := by
  have S := Lib.hid ((base_box w b.s n I).alloc (w.heap.size + 1) (by simp) (inoL Ii.zero) 47)
  have HP : Hid (∀ w, Calls Tryz.prog 82 #[.agg #[.int .i64 n, .int .i64 I], .int .i64 i] w fun e w' => e = .returned (.tuple #[.int .i64 0, .int .i64 0]) ∧ Below w.heap.size w w') := Lib.hid (fun w => place_no n I i w v.pl h0)
  clear v h0
  unfold baseV
  go_enter Tryz.func80, Tryz.ntmps80
  go_wp2_with (first
    | (go_at_call 82; (with_reducible refine (HP.out _).mono ?_); rintro e w1 ⟨rfl, hb⟩; replace S := Lib.hid (S.out.below hb); clear hb)
    | ((with_reducible refine wpList_store_rw (vs := inoL Ii.zero) inoT (S.out.get 1 _ rfl) ?_ ?_ (inoL_one _) rfl (.tmp 4) (.tmp 20) rfl ?_ ?_ ?_); (exact rfl); (exact rfl); (exact rfl); (exact rfl)))
  have S2 := Lib.hid (S.out.put 1 _ rfl (inoL Ii.zero) rfl)
  exact bodyPost_ret (results_row2 inoT _ 4 5 rfl _ (S2.out.get 1 _ rfl) rfl rfl rfl) rfl ⟨rfl, S2.out.bel⟩
theorem binode_yes {w : World} {b : Blk} {s : Sto} {n I : Int} (hst : StoreAt w b s) (v : Vs s n I) (i : Int) (h1 : 1 ≤ i) (h2 : i ≤ I) : Calls Tryz.prog 80 #[baseV b.s n I, .int .i64 i] w fun e w' => e = .returned (.tuple #[inoV (Fs.inoAt (nv s) i), .int .i64 0]) ∧ Below w.heap.size w w' := by
  have S := Lib.hid ((base_box w b.s n I).alloc (w.heap.size + 1) (by simp) (inoL Ii.zero) 47)
  have HP : Hid (∀ w, Calls Tryz.prog 82 #[.agg #[.int .i64 n, .int .i64 I], .int .i64 i] w fun e w' => e = .returned (.tuple #[.int .i64 (43 + (i - 1) / 2), .int .i64 ((i - 1) % 2)]) ∧ Below w.heap.size w w') := Lib.hid (fun w => place_yes n I i w v.pl h1 h2)
  obtain ⟨k1, k2⟩ := tbl_ok v h1 h2
  obtain ⟨r1, r2, r3⟩ := v.read k1
  rw [k2] at r1 r3
  have HR : Hid (∀ W l, Lo [] w l W → Calls Tryz.prog 75 #[.pointer (some ⟨b.s, 0, none⟩), .int .i64 (43 + (i - 1) / 2)] W fun e w' => e = .returned (.tuple #[pageV (nv s (Fs.tbl i)), .int .i64 0]) ∧ Below W.heap.size W w') := Lib.hid (fun W l hl => by
    have := sread_any (hl.store hst) (43 + (i - 1) / 2)
    rw [r1, r2] at this
    exact this)
  have HL := Lib.hid r3
  have HG : Hid (∀ w, Calls Tryz.prog 126 #[pageV (nv s (Fs.tbl i)), .int .i64 ((i - 1) % 2)] w fun e w' => e = .returned (inoV (Ii.getI (nv s (Fs.tbl i)) (Fs.halfAt i))) ∧ Below w.heap.size w w') := Lib.hid (fun w => iget_any _ i w r3)
  unfold Fs.inoAt
  have hat : ((43 + (i - 1) / 2 : Int) == 0) = false := by rw [beq_eq_false_iff_ne]; omega
  clear v hst h1 h2 k1 k2 r1 r2 r3
  generalize (43 + (i - 1) / 2 : Int) = at1 at HP HR hat
  generalize (i - 1) % 2 = hf at HP HG
  generalize nv s (Fs.tbl i) = p at HR HL HG ⊢
  generalize Ii.getI p (Fs.halfAt i) = x at HG ⊢
  unfold baseV
  by_cases hk : x.k = 0
  · rw [if_pos hk]
    have gk : (x.k == 0) = true := by rw [hk]; rfl
    clear hk
    go_enter Tryz.func80, Tryz.ntmps80
    go_wp2_with (first
      | (go_at_call 82; (with_reducible refine (HP.out _).mono ?_); rintro e w1 ⟨rfl, hb⟩; replace S := Lib.hid (S.out.below hb); have c0 := (S.out.get 0 _ rfl).cell 0 _ rfl; clear hb)
      | (go_at_call 75; (with_reducible refine (HR.out _ _ S.out).mono ?_); rintro e w2 ⟨rfl, hb⟩; clear c0; replace S := Lib.hid (S.out.below hb); clear hb)
      | ((with_reducible refine wpList_store_new rfl (.tmp 8) (.tmp 26) rfl rfl ?_ ?_ HL.out ?_); (exact rfl); (exact rfl); intro W2 hP hB2 hz2; replace S := Lib.hid (S.out.made hP.rowAt hB2 hz2); clear hP hB2 hz2)
      | (with_reducible refine wpList_load_page ((S.out.get 2 _ rfl).page HL.out) rfl (.tmp 8) rfl rfl ?_)
      | (go_at_call 126; (with_reducible refine (HG.out _).mono ?_); rintro e w3 ⟨rfl, hb⟩; replace S := Lib.hid (S.out.below hb); clear hb)
      | ((with_reducible refine wpList_store_newrow (vs := inoL x) inoT ?_ (inoL_one _) rfl (.tmp 10) (.tmp 34) rfl rfl ?_ ?_ ?_); (exact rfl); (exact rfl); (exact rfl); intro W4 hP hB2 hz2; replace S := Lib.hid (S.out.made hP hB2 hz2); clear hP hB2 hz2; have i0 := (S.out.get 3 _ rfl).cell 0 _ rfl)
      | ((with_reducible refine wpList_store_rw (vs := inoL Ii.zero) inoT (S.out.get 1 _ rfl) ?_ ?_ (inoL_one _) rfl (.tmp 4) (.tmp 38) rfl ?_ ?_ ?_); (exact rfl); (exact rfl); (exact rfl); (exact rfl)))
    have S2 := Lib.hid (S.out.put 1 _ rfl (inoL Ii.zero) rfl)
    exact bodyPost_ret (results_row2 inoT _ 4 5 rfl _ (S2.out.get 1 _ rfl) rfl rfl rfl) rfl ⟨rfl, S2.out.bel⟩
  · rw [if_neg hk]
    have gk : (x.k == 0) = false := by rw [beq_eq_false_iff_ne]; exact hk
    clear hk
    go_enter Tryz.func80, Tryz.ntmps80
    go_wp2_with (first
      | (go_at_call 82; (with_reducible refine (HP.out _).mono ?_); rintro e w1 ⟨rfl, hb⟩; replace S := Lib.hid (S.out.below hb); have c0 := (S.out.get 0 _ rfl).cell 0 _ rfl; clear hb)
      | (go_at_call 75; (with_reducible refine (HR.out _ _ S.out).mono ?_); rintro e w2 ⟨rfl, hb⟩; clear c0; replace S := Lib.hid (S.out.below hb); clear hb)
      | ((with_reducible refine wpList_store_new rfl (.tmp 8) (.tmp 26) rfl rfl ?_ ?_ HL.out ?_); (exact rfl); (exact rfl); intro W2 hP hB2 hz2; replace S := Lib.hid (S.out.made hP.rowAt hB2 hz2); clear hP hB2 hz2)
      | (with_reducible refine wpList_load_page ((S.out.get 2 _ rfl).page HL.out) rfl (.tmp 8) rfl rfl ?_)
      | (go_at_call 126; (with_reducible refine (HG.out _).mono ?_); rintro e w3 ⟨rfl, hb⟩; replace S := Lib.hid (S.out.below hb); clear hb)
      | ((with_reducible refine wpList_store_newrow (vs := inoL x) inoT ?_ (inoL_one _) rfl (.tmp 10) (.tmp 34) rfl rfl ?_ ?_ ?_); (exact rfl); (exact rfl); (exact rfl); intro W4 hP hB2 hz2; replace S := Lib.hid (S.out.made hP hB2 hz2); clear hP hB2 hz2; have i0 := (S.out.get 3 _ rfl).cell 0 _ rfl)
      | (with_reducible refine wpList_load_rw inoT (S.out.get 3 _ rfl) rfl rfl (.tmp 10) rfl rfl ?_)
      | ((with_reducible refine wpList_store_rw (vs := inoL x) inoT (S.out.get 1 _ rfl) ?_ ?_ (inoL_one _) rfl (.tmp 4) (.tmp 39) rfl ?_ ?_ ?_); (exact rfl); (exact rfl); (exact rfl); (exact rfl)))
    have S2 := Lib.hid (S.out.put 1 _ rfl (inoL x) rfl)
    exact bodyPost_ret (results_row2 inoT _ 4 5 rfl _ (S2.out.get 1 _ rfl) rfl rfl rfl) rfl ⟨rfl, S2.out.bel⟩
theorem taken_no {I i : Int} {V : Fs.View} (h : Fs.takenF I i V = .error 22) : (i < 1 ∨ I < i) ∨ (1 ≤ i ∧ i ≤ I ∧ (Fs.inoAt V i).k = 0) := by
  unfold Fs.takenF at h
  by_cases c : 1 ≤ i ∧ i ≤ I
  · rw [if_pos c] at h
    right
    refine ⟨c.1, c.2, ?_⟩
    by_cases d : (Fs.inoAt V i).k = 0
    · exact d
    · rw [if_neg d] at h; cases h
  · left; omega
theorem taken_yes {I i : Int} {V : Fs.View} {x : Ino} (h : Fs.takenF I i V = .ok x) : 1 ≤ i ∧ i ≤ I ∧ x = Fs.inoAt V i ∧ x.k ≠ 0 := by
  unfold Fs.takenF at h
  by_cases c : 1 ≤ i ∧ i ≤ I
  · rw [if_pos c] at h
    by_cases d : (Fs.inoAt V i).k = 0
    · rw [if_pos d] at h; cases h
    · rw [if_neg d] at h
      injection h with h
      subst h
      exact ⟨c.1, c.2, rfl, d⟩
  · rw [if_neg c] at h; cases h
theorem taken_or (I i : Int) (V : Fs.View) : Fs.takenF I i V = .error 22 ∨ ∃ x, Fs.takenF I i V = .ok x := by
  unfold Fs.takenF
  split
  · split
    · exact Or.inl rfl
    · exact Or.inr ⟨_, rfl⟩
  · exact Or.inl rfl
theorem base_boxV (w : World) (st : Nat) (n I : Int) : Lo [] w [(w.heap.size, baseL st n I), (w.heap.size + 1, inoL Ii.zero)] ((w.alloc (.cells #[.pointer (some ⟨st, 0, none⟩), .int .i64 n, .int .i64 I] 70)).alloc (.cells (inoL Ii.zero).toArray 47)) :=
  (base_box w st n I).alloc (w.heap.size + 1) (by simp) (inoL Ii.zero) 47
theorem btaken_no {w : World} {b : Blk} {s : Sto} {n I : Int} (hst : StoreAt w b s) (v : Vs s n I) (i : Int) (h : Fs.takenF I i (nv s) = .error 22) : Calls Tryz.prog 110 #[baseV b.s n I, .int .i64 i] w fun e w' => e = .returned (.tuple #[inoV Ii.zero, .int .i64 22]) ∧ Below w.heap.size w w' := by
  have S := Lib.hid (base_boxV w b.s n I)
  have HI : ∃ E : Int, Hid (∀ W l, Lo [] w l W → Calls Tryz.prog 80 #[baseV b.s n I, .int .i64 i] W fun e w' => e = .returned (.tuple #[inoV Ii.zero, .int .i64 E]) ∧ Below W.heap.size W w') ∧ (E = 0 ∨ E = 22) := by
    rcases taken_no h with c | ⟨c1, c2, c3⟩
    · exact ⟨22, Lib.hid (fun W l _ => binode_no v i c), Or.inr rfl⟩
    · refine ⟨0, Lib.hid (fun W l hl => ?_), Or.inl rfl⟩
      have := binode_yes (hl.store hst) v i c1 c2
      have e : Fs.inoAt (nv s) i = Ii.zero := by
        unfold Fs.inoAt at c3 ⊢
        split
        · rfl
        · rename_i q; rw [if_neg q] at c3; exact absurd c3 q
      rw [e] at this
      exact this
  obtain ⟨E, HI, hE⟩ := HI
  clear v hst h
  rcases hE with rfl | rfl
  all_goals
    unfold baseV at HI ⊢
    go_enter Tryz.func110, Tryz.ntmps110
    go_wp2_with (first
      | (with_reducible refine wpList_load_base (S.out.get 0 _ rfl).base rfl (.tmp 2) rfl rfl ?_)
      | (go_at_call 80; refine (HI.out _ _ S.out).mono ?_; rintro e w1 ⟨rfl, hb⟩; replace S := Lib.hid (S.out.below hb); clear hb)
      | ((with_reducible refine wpList_store_newrow (vs := inoL Ii.zero) inoT ?_ (inoL_one _) rfl (.tmp 6) (.tmp 12) rfl rfl ?_ ?_ ?_); (exact rfl); (exact rfl); (exact rfl); intro W4 hP hB2 hz2; replace S := Lib.hid (S.out.made hP hB2 hz2); clear hP hB2 hz2; have i0 := (S.out.get 2 _ rfl).cell 0 _ rfl)
      | (with_reducible refine wpList_load_rw inoT (S.out.get 2 _ rfl) rfl rfl (.tmp 6) rfl rfl ?_)
      | ((with_reducible refine wpList_store_rw (vs := inoL Ii.zero) inoT (S.out.get 1 _ rfl) ?_ ?_ (inoL_one _) rfl (.tmp 4) (.tmp 21) rfl ?_ ?_ ?_); (exact rfl); (exact rfl); (exact rfl); (exact rfl))
      | ((with_reducible refine wpList_store_rw (vs := inoL Ii.zero) inoT (S.out.get 1 _ rfl) ?_ ?_ (inoL_one _) rfl (.tmp 4) (.tmp 22) rfl ?_ ?_ ?_); (exact rfl); (exact rfl); (exact rfl); (exact rfl)))
    have S2 := Lib.hid (S.out.put 1 _ rfl (inoL Ii.zero) rfl)
    exact bodyPost_ret (results_row2 inoT _ 4 5 rfl _ (S2.out.get 1 _ rfl) rfl rfl rfl) rfl ⟨rfl, S2.out.bel⟩
theorem btaken_yes {w : World} {b : Blk} {s : Sto} {n I : Int} (hst : StoreAt w b s) (v : Vs s n I) (i : Int) {x : Ino} (h : Fs.takenF I i (nv s) = .ok x) : Calls Tryz.prog 110 #[baseV b.s n I, .int .i64 i] w fun e w' => e = .returned (.tuple #[inoV x, .int .i64 0]) ∧ Below w.heap.size w w' := by
  have S := Lib.hid (base_boxV w b.s n I)
  obtain ⟨c1, c2, c3, c4⟩ := taken_yes h
  have HI : Hid (∀ W l, Lo [] w l W → Calls Tryz.prog 80 #[baseV b.s n I, .int .i64 i] W fun e w' => e = .returned (.tuple #[inoV x, .int .i64 0]) ∧ Below W.heap.size W w') := Lib.hid (fun W l hl => by
    have := binode_yes (hl.store hst) v i c1 c2
    rw [← c3] at this
    exact this)
  have gk : (x.k == 0) = false := by rw [beq_eq_false_iff_ne]; exact c4
  clear v hst h c1 c2 c3 c4
  unfold baseV at HI ⊢
  go_enter Tryz.func110, Tryz.ntmps110
  go_wp2_with (first
    | (with_reducible refine wpList_load_base (S.out.get 0 _ rfl).base rfl (.tmp 2) rfl rfl ?_)
    | (go_at_call 80; refine (HI.out _ _ S.out).mono ?_; rintro e w1 ⟨rfl, hb⟩; replace S := Lib.hid (S.out.below hb); clear hb)
    | ((with_reducible refine wpList_store_newrow (vs := inoL x) inoT ?_ (inoL_one _) rfl (.tmp 6) (.tmp 12) rfl rfl ?_ ?_ ?_); (exact rfl); (exact rfl); (exact rfl); intro W4 hP hB2 hz2; replace S := Lib.hid (S.out.made hP hB2 hz2); clear hP hB2 hz2; have i0 := (S.out.get 2 _ rfl).cell 0 _ rfl)
    | (with_reducible refine wpList_load_rw inoT (S.out.get 2 _ rfl) rfl rfl (.tmp 6) rfl rfl ?_)
    | ((with_reducible refine wpList_store_rw (vs := inoL x) inoT (S.out.get 1 _ rfl) ?_ ?_ (inoL_one _) rfl (.tmp 4) (.tmp 22) rfl ?_ ?_ ?_); (exact rfl); (exact rfl); (exact rfl); (exact rfl)))
  have S2 := Lib.hid (S.out.put 1 _ rfl (inoL x) rfl)
  exact bodyPost_ret (results_row2 inoT _ 4 5 rfl _ (S2.out.get 1 _ rfl) rfl rfl rfl) rfl ⟨rfl, S2.out.bel⟩
theorem base_boxP (w : World) (st : Nat) (n I : Int) : Lo [] w [(w.heap.size, baseL st n I), (w.heap.size + 1, byteVals zeros)] ((w.alloc (.cells #[.pointer (some ⟨st, 0, none⟩), .int .i64 n, .int .i64 I] 70)).alloc (.cells zeroCells 97)) :=
  (base_box w st n I).alloc (w.heap.size + 1) (by simp) (byteVals zeros) 97
theorem Lo.page {L : List Nat} {w0 w : World} {l : List (Nat × List Value)} (h : Lo L w0 l w) (k : Nat) {B : Nat} {p : List UInt8} (hx : l[k]? = some (B, byteVals p)) (hp : p.length = 64) : PageAt w B p := (h.get k _ hx).page hp
theorem Lo.putP {L : List Nat} {w0 w : World} {l : List (Nat × List Value)} (h : Lo L w0 l w) (k : Nat) {B : Nat} {p : List UInt8} (hx : l[k]? = some (B, byteVals p)) (hp : p.length = 64) (q : List UInt8) (hq : q.length = 64) : Lo L w0 (l.set k (B, byteVals q)) (w.setCells B 0 (byteVals q)) :=
  h.put k (B, byteVals p) hx _ (by simp only [byteVals_length]; omega)
theorem bdata_zero {w : World} (b : Blk) (n I : Int) : Calls Tryz.prog 116 #[baseV b.s n I, .int .i64 0] w fun e w' => e = .returned (.tuple #[pageV zeros, .int .i64 0]) ∧ Below w.heap.size w w' := by
  have S0 := Lib.hid (base_box w b.s n I)
  unfold baseV
  go_enter Tryz.func116, Tryz.ntmps116
  go_wp2_with ((with_reducible refine wpList_store_new rfl (.tmp 4) (.tmp 8) rfl ?_ ?_ ?_ zeros_length ?_); (simp [Act.eval]); (exact rfl); (exact rfl); intro W2 hP hB2 hz2; have S := Lib.hid (S0.out.madeB (w.heap.size + 1) (by simp) hP.rowAt hB2 hz2); clear hP hB2 hz2)
  exact bodyPost_ret (results_page_int _ 4 5 rfl _ (S.out.page 1 rfl zeros_length) rfl) rfl ⟨rfl, S.out.bel⟩
theorem bdata_no {w : World} {b : Blk} {s : Sto} {n I : Int} (v : Vs s n I) (m : Int) (h0 : m ≠ 0) (h1 : ¬ Fs.isData n I m) : Calls Tryz.prog 116 #[baseV b.s n I, .int .i64 m] w fun e w' => e = .returned (.tuple #[pageV zeros, .int .i64 5]) ∧ Below w.heap.size w w' := by
  have S0 := Lib.hid (base_boxP w b.s n I)
  have HB : Hid (∀ w, Calls Tryz.prog 155 #[.agg #[.int .i64 n, .int .i64 I], .int .i64 m] w fun e w' => e = .returned (.int .i64 (-1)) ∧ Below w.heap.size w w') := Lib.hid (fun w => bit_no n I m w v.pl (by unfold Fs.isData at h1; omega))
  have g0 : (m == 0) = false := by rw [beq_eq_false_iff_ne]; exact h0
  clear v h0 h1
  unfold baseV
  go_enter Tryz.func116, Tryz.ntmps116
  go_wp2_with fail
  rw [← zeroCells_def]
  generalize hw : (w.alloc _).alloc _ = w1
  have S : Hid (Lo [] w [(w.heap.size, baseL b.s n I), (w.heap.size + 1, byteVals zeros)] w1) := Lib.hid (by rw [← hw]; exact S0.out)
  clear hw S0
  go_wp2_with (first
    | (go_at_call 155; (with_reducible refine (HB.out _).mono ?_); rintro e w2 ⟨rfl, hb⟩; replace S := Lib.hid (S.out.below hb); clear hb)
    | ((with_reducible refine wpList_store_page (S.out.page 1 rfl zeros_length) zeros_length rfl (.tmp 4) (.tmp 14) rfl rfl ?_ ?_); (exact rfl)))
  have S2 := Lib.hid (S.out.putP 1 rfl zeros_length zeros zeros_length)
  exact bodyPost_ret (results_page_int _ 4 5 rfl _ (S2.out.page 1 rfl zeros_length) rfl) rfl ⟨rfl, S2.out.bel⟩
theorem data_ok {s : Sto} {n I m : Int} (v : Vs s n I) (h : Fs.isData n I m) : okP n m ∧ m ≠ 0 := by
  obtain ⟨b1, b2, b3, b4, b5, b6⟩ := v.bd
  unfold Fs.isData at h
  exact ⟨⟨by omega, by omega, by omega⟩, by omega⟩
theorem bdata_yes {w : World} {b : Blk} {s : Sto} {n I : Int} (hst : StoreAt w b s) (v : Vs s n I) (m : Int) (h1 : Fs.isData n I m) : Calls Tryz.prog 116 #[baseV b.s n I, .int .i64 m] w fun e w' => e = .returned (.tuple #[pageV (nv s m.toNat), .int .i64 0]) ∧ Below w.heap.size w w' := by
  have S0 := Lib.hid (base_boxP w b.s n I)
  obtain ⟨k1, k2⟩ := data_ok v h1
  obtain ⟨r1, r2, r3⟩ := v.read k1
  have HB : Hid (∀ w, Calls Tryz.prog 155 #[.agg #[.int .i64 n, .int .i64 I], .int .i64 m] w fun e w' => e = .returned (.int .i64 (m - Pl.dataN I)) ∧ Below w.heap.size w w') := Lib.hid (fun w => bit_yes n I m w v.pl h1.1 h1.2)
  have HR : Hid (∀ W l, Lo [] w l W → Calls Tryz.prog 75 #[.pointer (some ⟨b.s, 0, none⟩), .int .i64 m] W fun e w' => e = .returned (.tuple #[pageV (nv s m.toNat), .int .i64 0]) ∧ Below W.heap.size W w') := Lib.hid (fun W l hl => by
    have := sread_any (hl.store hst) m
    rw [r1, r2] at this
    exact this)
  have HL := Lib.hid r3
  have g0 : (m == 0) = false := by rw [beq_eq_false_iff_ne]; exact k2
  have gb : 0 ≤ m - Pl.dataN I := by have := h1.1; omega
  clear v h1 k1 k2 r1 r2 r3 hst
  generalize nv s m.toNat = p at HR HL ⊢
  generalize m - Pl.dataN I = x at HB gb
  unfold baseV
  go_enter Tryz.func116, Tryz.ntmps116
  go_wp2_with fail
  rw [← zeroCells_def]
  generalize hw : (w.alloc _).alloc _ = w1
  have S : Hid (Lo [] w [(w.heap.size, baseL b.s n I), (w.heap.size + 1, byteVals zeros)] w1) := Lib.hid (by rw [← hw]; exact S0.out)
  clear hw S0
  go_wp2_with (first
    | (go_at_call 155; (with_reducible refine (HB.out _).mono ?_); rintro e w2 ⟨rfl, hb⟩; replace S := Lib.hid (S.out.below hb); clear hb; have c0 := (S.out.get 0 _ rfl).cell 0 _ rfl)
    | (go_at_call 75; (with_reducible refine (HR.out _ _ S.out).mono ?_); rintro e w2 ⟨rfl, hb⟩; clear c0; replace S := Lib.hid (S.out.below hb); clear hb)
    | ((with_reducible refine wpList_store_page (S.out.page 1 rfl zeros_length) HL.out rfl (.tmp 4) (.tmp 19) rfl rfl ?_ ?_); (exact rfl)))
  have S2 := Lib.hid (S.out.putP 1 rfl zeros_length p HL.out)
  exact bodyPost_ret (results_page_int _ 4 5 rfl _ (S2.out.page 1 rfl HL.out) rfl) rfl ⟨rfl, S2.out.bel⟩
theorem data_or (n I m : Int) (V : Fs.View) : (m = 0 ∧ Fs.dataF n I m V = .ok zeros) ∨ (m ≠ 0 ∧ Fs.isData n I m ∧ Fs.dataF n I m V = .ok (V m.toNat)) ∨ (m ≠ 0 ∧ ¬ Fs.isData n I m ∧ Fs.dataF n I m V = .error 5) := by
  unfold Fs.dataF
  by_cases c : m = 0
  · left; exact ⟨c, by rw [if_pos c]⟩
  · by_cases d : Fs.isData n I m
    · right; left; exact ⟨c, d, by rw [if_neg c, if_pos d]⟩
    · right; right; exact ⟨c, d, by rw [if_neg c, if_neg d]⟩
theorem data_len {s : Sto} {n I m : Int} {p : List UInt8} (v : Vs s n I) (h : Fs.dataF n I m (nv s) = .ok p) : p.length = 64 := by
  rcases data_or n I m (nv s) with ⟨_, e⟩ | ⟨_, d, e⟩ | ⟨_, _, e⟩
  · rw [e] at h; injection h with h; subst h; exact zeros_length
  · rw [e] at h; injection h with h; subst h; exact (v.read (data_ok v d).1).2.2
  · rw [e] at h; cases h
theorem data_err {n I m e : Int} {V : Fs.View} (h : Fs.dataF n I m V = .error e) : e = 5 := by
  rcases data_or n I m V with ⟨_, q⟩ | ⟨_, d, q⟩ | ⟨_, _, q⟩
  · rw [q] at h; cases h
  · rw [q] at h; cases h
  · rw [q] at h; injection h with h; exact h.symm
theorem bdata_any {w : World} {b : Blk} {s : Sto} {n I : Int} (hst : StoreAt w b s) (v : Vs s n I) (m : Int) : Calls Tryz.prog 116 #[baseV b.s n I, .int .i64 m] w fun e w' => e = .returned (exV pageV (pageV zeros) (Fs.dataF n I m (nv s))) ∧ Below w.heap.size w w' := by
  rcases data_or n I m (nv s) with ⟨h, e⟩ | ⟨h, d, e⟩ | ⟨h, d, e⟩
  · subst h; rw [e]; exact bdata_zero b n I
  · rw [e]; exact bdata_yes hst v m d
  · rw [e]; exact bdata_no v m h d
end
end Go.Proofs.YtmpfcgjjejlhdaaGreat
