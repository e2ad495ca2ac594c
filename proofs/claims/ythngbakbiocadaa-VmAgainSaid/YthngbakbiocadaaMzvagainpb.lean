/-
  The walk of VmAgain.
-/
import Derived.Test.YthngbakbiocadaaMzvagainpa
import Derived.Test.YthngbakbiocadaaMl
import Derived.Test.YthngbakbiocadaaMk
import Derived.Test.YthngbakbiocadaaMg
import Derived.BigQuiet
import Derived.Deep.DeepCutAuto

namespace Go.Proofs.Ythngbakbiocadaa
set_option maxRecDepth 100000
open Go.ChangeShapes Go.WideShapes Go.ChangeAt Go.RowKit Go.Maps

section
variable (K : V.Calc) (hi : Int → Bool)
set_option maxHeartbeats 8000000 in
theorem again_walk (HR0 : RunC K hi) (HA0 : AwakeC) (s : Su) (A : Option Addr) (n c : Nat) (E : Option Addr) (q e0 : Nat) (B : Option Addr) (m d : Nat) (xs : List Y.In) (w : World) (hctx : NumsAt w A n s.ctx) (hfs : FlsAt w E q s.fs) (hins : Yq.InsAt w B m xs) :
    Calls Try.prog 4 #[.agg (suL s A n c E q e0).toArray, .slice B m d] w fun e w' => e = .returned (.bool true) ∧ Below w.heap.size w w' := by
  have HR := Lib.hid HR0
  have HA := Lib.hid HA0
  have HC := Lib.hid hctx
  have HF := Lib.hid hfs
  have HI := Lib.hid hins
  have R0 := Lib.hid (rowAt_new w (suL s A n c E q e0) 25)
  have B0 : Hid (Below w.heap.size w (w.alloc (.cells (suL s A n c E q e0).toArray 25))) := Lib.hid ((Below.refl _ _).alloc (Nat.le_refl _) _)
  have HXL : Hid (w.heap.size < (w.alloc (.cells (suL s A n c E q e0).toArray 25)).heap.size) := Lib.hid (by simp)
  clear HR0 HA0 hctx hfs hins
  by_cases h100 : m ≤ 100
  · by_cases h40 : n ≤ 40
    · have h100i : ¬ ((100 : Int) < (m : Int)) := by omega
      have h100d : decide ((100 : Int) < (m : Int)) = false := decide_eq_false h100i
      have h40i : ¬ ((40 : Int) < (n : Int)) := by omega
      unfold suL at R0 B0 HXL ⊢
      go_enter Try.func4, Try.ntmps4
      go_upto_region 1 with fail
      generalize w.alloc (.cells _ 25) = W1 at R0 B0 HXL ⊢
      go_wp2_with fail
      refine (HA.out _).mono ?_
      rintro e w2 ⟨rfl, hb⟩
      have R := Lib.hid (R0.out.step hb)
      have BB := Lib.hid (B0.out.trans (hb.mono B0.out.size))
      have HX2 : Hid (w.heap.size < w2.heap.size) := Lib.hid (Nat.lt_of_lt_of_le HXL.out hb.size)
      clear hb R0 B0 HXL
      have hx2 := R.out.cell 2 _ rfl
      have hx3 := R.out.cell 3 _ rfl
      go_wp2_with fail
      refine (filled_any E q e0 s.fs _ (HF.out.step BB.out)).mono ?_
      intro e w3 hg
      unfold FilledGive at hg
      by_cases hcond : q ≤ 4 ∧ s.fs.all goodFl = true
      · rw [if_pos hcond] at hg
        obtain ⟨v, u, bs, cs, ba, bb, U, rfl, hpr, hb, hba0⟩ := hg
        have HBA : Hid (w.heap.size ≤ ba) := Lib.hid (Nat.le_trans BB.out.size hba0)
        have P := Lib.hid hpr
        have HCOND := Lib.hid hcond
        have R3 := Lib.hid (R.out.step hb)
        have B3 := Lib.hid (BB.out.trans (hb.mono BB.out.size))
        have HX3 : Hid (¬ U w.heap.size) := Lib.hid (fun hu => by have := (hpr.lt hu).1; have := HX2.out; omega)
        have HXZ : Hid (w.heap.size < w3.heap.size) := Lib.hid (Nat.lt_of_lt_of_le HX2.out hb.size)
        clear hcond hb hpr hx2 hx3
        have hx3 := R3.out.cell 3 _ rfl
        go_wp2_with fail
        refine (filled_any E q e0 s.fs _ (HF.out.step B3.out)).mono ?_
        intro e w4 hg
        unfold FilledGive at hg
        rw [if_pos HCOND.out] at hg
        obtain ⟨v2, u2, bs2, cs2, ba2, bb2, U2, rfl, hpr2, hb2, hba2⟩ := hg
        have HBA2 : Hid (w.heap.size ≤ ba2) := Lib.hid (Nat.le_trans B3.out.size hba2)
        have P2 := Lib.hid hpr2
        have HX4 : Hid (¬ U2 w.heap.size) := Lib.hid (fun hu => by have := (hpr2.lt hu).1; have := HXZ.out; omega)
        obtain ⟨S, T, hs1, _, _, hs4, _, _, hs7, _⟩ := P.out.step hb2
        have HST := Lib.hid hs1
        have HXS : Hid (¬ S w.heap.size) := Lib.hid (fun hh => HX3.out (hs4 _ hh))
        have HBW := Lib.hid hs7
        have HSU : Hid (∀ y, S y → ¬ U2 y) := Lib.hid (fun y hy hu => by have := (P.out.lt (hs4 y hy)).2; have := (hpr2.lt hu).1; omega)
        have HXR : Hid (RowAt w4 w.heap.size [.int .i64 s.hook, .bool s.fit, .slice A n c, .slice E q e0]) := Lib.hid (R3.out.step hb2)
        have BW := Lib.hid (B3.out.trans (hb2.mono B3.out.size))
        have HDO := Lib.hid (dsF_ok HCOND.out.2)
        have HD4 : Hid ((dsF s.fs).length ≤ 4) := Lib.hid (by unfold dsF; rw [List.length_map, HF.out.len]; exact HCOND.out.1)
        have HN10 : Hid ((Hk.inF s.hook).toNat ≤ 1000) := Lib.hid (by have := inF_range s.hook; omega)
        obtain ⟨o, ho⟩ : ∃ o, outOf K hi s.hook (ctxF s.hook s.ctx) xs (dsF s.fs) = o := ⟨_, rfl⟩
        have HO := Lib.hid ho
        have HAG : Hid (AgF s.hook s.fs o) := Lib.hid (by rw [← ho]; exact again_facts K hi s.hook s.ctx xs s.fs HCOND.out.2)
        have HLW : Hid (w.heap.size ≤ w3.heap.size) := Lib.hid B3.out.size
        clear ho hs1 hs4 hs7 P R3 B3 R BB hb2 hpr2 hba2 hx3 hba0
        rename World => wo
        have hx2 := HXR.out.cell 2 _ rfl
        have hx0 := HXR.out.cell 0 _ rfl
        go_upto_region 9 with fail
        clear hx2 hx0
        go_cut [11, 12] (fun p q' wx => ∃ (O : Option Addr) (k c : Nat) (S' : Nat → Prop) (G : Nat), p = .pointer (some ⟨G, 0, none⟩) ∧ q' = .int .i64 o.err ∧ Hid (RnR wo ba v bs S o (Hk.inF s.hook).toNat (ctxF s.hook s.ctx) (.s3 O k c S' G) wx))
        case first =>
          refine Lv.wp_region_linm (RnR wo ba (v) bs S o (Hk.inF s.hook).toNat (ctxF s.hook s.ctx)) (fun _ _ => true) (fun i => i == 7 || i == 9 || i == 13 || i == 14) (fun qi => [.pointer (some ⟨w.heap.size, 0, none⟩), .int .i64 s.hook, v, .pointer (some ⟨w.heap.size, 0, none⟩), .int .i64 s.hook, .pointer (some ⟨w.heap.size, 2, none⟩), .slice A n c, undef, .slice B m d, undef, undef, undef, undef, undef, undef, undef].getD qi undef) (RunK.s0 none) (by kernel_rfl) (by kernel_rfl) (⟨(Below.refl _ _).drew, Gz.none⟩) (fun _ => rfl) ?_
          refine Lv.linm_step (i := 0) (d := some 48) (v := .pointer (some ⟨w.heap.size, 0, none⟩)) rfl rfl (by kernel_rfl) (by kernel_rfl) rfl rfl (ordm_value (by kernel_rfl) ?_) ?_
          · (intro s' w' _ hS; go_simp)
          (try simp only [Act.put, List.setIfInBounds_toArray, List.set_cons_zero, List.set_cons_succ])
          refine Lv.linm_step (i := 3) (d := some 51) (v := .pointer (some ⟨w.heap.size, 0, none⟩)) rfl rfl (by kernel_rfl) (by kernel_rfl) rfl rfl (ordm_value (by kernel_rfl) ?_) ?_
          · (intro s' w' _ hS; go_simp)
          (try simp only [Act.put, List.setIfInBounds_toArray, List.set_cons_zero, List.set_cons_succ])
          refine Lv.linm_step (i := 5) (d := some 53) (v := .pointer (some ⟨w.heap.size, 2, none⟩)) rfl rfl (by kernel_rfl) (by kernel_rfl) rfl rfl (ordm_value (by kernel_rfl) ?_) ?_
          · (intro s' w' _ hS; go_simp)
          (try simp only [Act.put, List.setIfInBounds_toArray, List.set_cons_zero, List.set_cons_succ])
          refine Lv.linm_step (i := 1) (d := some 49) (v := .int .i64 s.hook) rfl rfl (by kernel_rfl) (by kernel_rfl) rfl rfl (ordm_value (by kernel_rfl) ?_) ?_
          · (intro s' w' _ hS; have hrr := RnR.row hS HXR.out HXS.out; have hcc := hrr.cell 0 _ rfl; go_simp)
          (try simp only [Act.put, List.setIfInBounds_toArray, List.set_cons_zero, List.set_cons_succ])
          refine Lv.linm_step (i := 2) (d := some 50) (v := v) rfl rfl (by kernel_rfl) (by kernel_rfl) rfl rfl (ordm_value (by kernel_rfl) ?_) ?_
          · (intro s' w' _ hS; go_simp)
          (try simp only [Act.put, List.setIfInBounds_toArray, List.set_cons_zero, List.set_cons_succ])
          refine Lv.linm_step (i := 4) (d := some 52) (v := .int .i64 s.hook) rfl rfl (by kernel_rfl) (by kernel_rfl) rfl rfl (ordm_value (by kernel_rfl) ?_) ?_
          · (intro s' w' _ hS; have hrr := RnR.row hS HXR.out HXS.out; have hcc := hrr.cell 0 _ rfl; go_simp)
          (try simp only [Act.put, List.setIfInBounds_toArray, List.set_cons_zero, List.set_cons_succ])
          refine Lv.linm_step (i := 6) (d := some 54) (v := .slice A n c) rfl rfl (by kernel_rfl) (by kernel_rfl) rfl rfl (ordm_value (by kernel_rfl) ?_) ?_
          · (intro s' w' _ hS; have hrr := RnR.row hS HXR.out HXS.out; have hcc := hrr.cell 2 _ rfl; go_simp)
          (try simp only [Act.put, List.setIfInBounds_toArray, List.set_cons_zero, List.set_cons_succ])
          refine Lv.linm_step (i := 8) (d := some 56) (v := .slice B m d) rfl rfl (by kernel_rfl) (by kernel_rfl) rfl rfl (ordm_value (by kernel_rfl) ?_) ?_
          · (intro s' w' _ hS; go_simp)
          (try simp only [Act.put, List.setIfInBounds_toArray, List.set_cons_zero, List.set_cons_succ])
          refine Lv.linm_fork2 7 13 (di := some 55) (dj := some 11) (fun _ _ _ => undef) (fun _ _ _ => undef) (fun u s' => ∃ g, u = .slice (some ⟨g, 0, none⟩) (Hk.inF s.hook).toNat (Hk.inF s.hook).toNat ∧ s' = RunK.s1 g none) (fun u s' => ∃ G, u = .pointer (some ⟨G, 0, none⟩) ∧ s' = RunK.s0 (some G)) (by kernel_rfl) (by decide) rfl rfl rfl rfl rfl rfl (lost_no (fun _ _ _ _ => rfl)) (lost_no (fun _ _ _ _ => rfl)) (by kernel_rfl) (fun W hS => rn_ctx rfl rfl (HC.out.step BW.out) (by omega) hS (by go_simp <;> rfl)) (by kernel_rfl) (fun W hS => rn_alloc0 hS (by go_simp; rfl)) ?_ ?_
          · rintro _ s' ⟨g, rfl, rfl⟩
            (try simp only [Act.put, List.setIfInBounds_toArray, List.set_cons_zero, List.set_cons_succ])
            refine Lv.linm_fork2 9 13 (di := some 57) (dj := some 11) (fun _ s' qi => postVals o s' qi) (fun _ _ _ => undef) (fun u s' => ∃ O k c S', u = .tuple #[.agg (outL o O k c).toArray, .int .i64 o.err] ∧ s' = RunK.s2 O k c S' none) (fun u s' => ∃ G, u = .pointer (some ⟨G, 0, none⟩) ∧ s' = RunK.s1 g (some G)) (by kernel_rfl) (by decide) rfl rfl rfl rfl rfl rfl (lost_no (fun _ _ _ _ => rfl)) (lost_no (fun _ _ _ _ => rfl)) (by kernel_rfl) (fun W hS => rn_run HR.out HI.out BW.out HBA.out HST.out HBW.out HDO.out HD4.out (by omega) HN10.out HO.out.symm hS (by go_simp <;> rfl)) (by kernel_rfl) (fun W hS => rn_alloc1 hS (by go_simp; rfl)) ?_ ?_
            · rintro _ s' ⟨O, k, c, S', rfl, rfl⟩
              (try simp only [Act.put, List.setIfInBounds_toArray, List.set_cons_zero, List.set_cons_succ])
              refine Lv.linm_step (i := 10) (d := some 47) (v := .tuple #[.agg (outL o O k c).toArray, .int .i64 o.err]) rfl rfl (by kernel_rfl) (by kernel_rfl) rfl rfl (ordm_value (by kernel_rfl) ?_) ?_
              · (intro s' w' _ hS; go_simp)
              (try simp only [Act.put, List.setIfInBounds_toArray, List.set_cons_zero, List.set_cons_succ])
              refine Lv.linm_step (i := 11) (d := some 58) (v := .agg (outL o O k c).toArray) rfl rfl (by kernel_rfl) (by kernel_rfl) rfl rfl (ordm_value (by kernel_rfl) ?_) ?_
              · (intro s' w' _ hS; go_simp)
              (try simp only [Act.put, List.setIfInBounds_toArray, List.set_cons_zero, List.set_cons_succ])
              refine Lv.linm_step (i := 12) (d := some 59) (v := .int .i64 o.err) rfl rfl (by kernel_rfl) (by kernel_rfl) rfl rfl (ordm_value (by kernel_rfl) ?_) ?_
              · (intro s' w' _ hS; go_simp)
              (try simp only [Act.put, List.setIfInBounds_toArray, List.set_cons_zero, List.set_cons_succ])
              refine Lv.linm_sole 13 (di := some 11) (fun _ s' qi => postVals o s' qi) (fun u s' => ∃ G, u = .pointer (some ⟨G, 0, none⟩) ∧ s' = RunK.s2 O k c S' (some G)) (by kernel_rfl) rfl rfl rfl (lost_no (fun _ _ _ _ => rfl)) (by kernel_rfl) (fun W hS => rn_alloc2 hS (by go_simp; rfl)) ?_
              rintro _ s' ⟨G, rfl, rfl⟩
              (try simp only [Act.put, List.setIfInBounds_toArray, List.set_cons_zero, List.set_cons_succ])
              refine Lv.linm_sole 14 (di := none) (fun _ s' qi => postVals o s' qi) (fun u s' => u = undef ∧ s' = RunK.s3 O k c S' G) (by kernel_rfl) rfl rfl rfl (lost_no (fun _ _ _ _ => rfl)) (by kernel_rfl) (fun W hS => rn_store hS (.tmp 11) (.tmp 58) rfl rfl rfl) ?_
              rintro _ s' ⟨rfl, rfl⟩
              (try simp only [Act.put, List.setIfInBounds_toArray, List.set_cons_zero, List.set_cons_succ])
              refine Lv.linm_step (i := 15) (d := some 12) (v := .int .i64 o.err) rfl rfl (by kernel_rfl) (by kernel_rfl) rfl rfl (ordm_value (by kernel_rfl) ?_) ?_
              · (intro s' w' _ hS; go_simp)
              (try simp only [Act.put, List.setIfInBounds_toArray, List.set_cons_zero, List.set_cons_succ])
              refine Lv.linm_done (by kernel_rfl) ?_
              intro W hS
              go_wp2_with fail
              go_meet
              case rel => exact ⟨O, k, c, S', G, rfl, rfl, Lib.hid hS⟩
            · rintro _ s' ⟨G, rfl, rfl⟩
              (try simp only [Act.put, List.setIfInBounds_toArray, List.set_cons_zero, List.set_cons_succ])
              refine Lv.linm_sole 9 (di := some 57) (fun _ s' qi => postVals o s' qi) (fun u s' => ∃ O k c S', u = .tuple #[.agg (outL o O k c).toArray, .int .i64 o.err] ∧ s' = RunK.s2 O k c S' (some G)) (by kernel_rfl) rfl rfl rfl (lost_no (fun _ _ _ _ => rfl)) (by kernel_rfl) (fun W hS => rn_run HR.out HI.out BW.out HBA.out HST.out HBW.out HDO.out HD4.out (by omega) HN10.out HO.out.symm hS (by go_simp <;> rfl)) ?_
              rintro _ s' ⟨O, k, c, S', rfl, rfl⟩
              (try simp only [Act.put, List.setIfInBounds_toArray, List.set_cons_zero, List.set_cons_succ])
              refine Lv.linm_step (i := 10) (d := some 47) (v := .tuple #[.agg (outL o O k c).toArray, .int .i64 o.err]) rfl rfl (by kernel_rfl) (by kernel_rfl) rfl rfl (ordm_value (by kernel_rfl) ?_) ?_
              · (intro s' w' _ hS; go_simp)
              (try simp only [Act.put, List.setIfInBounds_toArray, List.set_cons_zero, List.set_cons_succ])
              refine Lv.linm_step (i := 11) (d := some 58) (v := .agg (outL o O k c).toArray) rfl rfl (by kernel_rfl) (by kernel_rfl) rfl rfl (ordm_value (by kernel_rfl) ?_) ?_
              · (intro s' w' _ hS; go_simp)
              (try simp only [Act.put, List.setIfInBounds_toArray, List.set_cons_zero, List.set_cons_succ])
              refine Lv.linm_step (i := 12) (d := some 59) (v := .int .i64 o.err) rfl rfl (by kernel_rfl) (by kernel_rfl) rfl rfl (ordm_value (by kernel_rfl) ?_) ?_
              · (intro s' w' _ hS; go_simp)
              (try simp only [Act.put, List.setIfInBounds_toArray, List.set_cons_zero, List.set_cons_succ])
              refine Lv.linm_sole 14 (di := none) (fun _ s' qi => postVals o s' qi) (fun u s' => u = undef ∧ s' = RunK.s3 O k c S' G) (by kernel_rfl) rfl rfl rfl (lost_no (fun _ _ _ _ => rfl)) (by kernel_rfl) (fun W hS => rn_store hS (.tmp 11) (.tmp 58) rfl rfl rfl) ?_
              rintro _ s' ⟨rfl, rfl⟩
              (try simp only [Act.put, List.setIfInBounds_toArray, List.set_cons_zero, List.set_cons_succ])
              refine Lv.linm_step (i := 15) (d := some 12) (v := .int .i64 o.err) rfl rfl (by kernel_rfl) (by kernel_rfl) rfl rfl (ordm_value (by kernel_rfl) ?_) ?_
              · (intro s' w' _ hS; go_simp)
              (try simp only [Act.put, List.setIfInBounds_toArray, List.set_cons_zero, List.set_cons_succ])
              refine Lv.linm_done (by kernel_rfl) ?_
              intro W hS
              go_wp2_with fail
              go_meet
              case rel => exact ⟨O, k, c, S', G, rfl, rfl, Lib.hid hS⟩
          · rintro _ s' ⟨G, rfl, rfl⟩
            (try simp only [Act.put, List.setIfInBounds_toArray, List.set_cons_zero, List.set_cons_succ])
            refine Lv.linm_sole 7 (di := some 55) (fun _ _ _ => undef) (fun u s' => ∃ g, u = .slice (some ⟨g, 0, none⟩) (Hk.inF s.hook).toNat (Hk.inF s.hook).toNat ∧ s' = RunK.s1 g (some G)) (by kernel_rfl) rfl rfl rfl (lost_no (fun _ _ _ _ => rfl)) (by kernel_rfl) (fun W hS => rn_ctx rfl rfl (HC.out.step BW.out) (by omega) hS (by go_simp <;> rfl)) ?_
            rintro _ s' ⟨g, rfl, rfl⟩
            (try simp only [Act.put, List.setIfInBounds_toArray, List.set_cons_zero, List.set_cons_succ])
            refine Lv.linm_sole 9 (di := some 57) (fun _ s' qi => postVals o s' qi) (fun u s' => ∃ O k c S', u = .tuple #[.agg (outL o O k c).toArray, .int .i64 o.err] ∧ s' = RunK.s2 O k c S' (some G)) (by kernel_rfl) rfl rfl rfl (lost_no (fun _ _ _ _ => rfl)) (by kernel_rfl) (fun W hS => rn_run HR.out HI.out BW.out HBA.out HST.out HBW.out HDO.out HD4.out (by omega) HN10.out HO.out.symm hS (by go_simp <;> rfl)) ?_
            rintro _ s' ⟨O, k, c, S', rfl, rfl⟩
            (try simp only [Act.put, List.setIfInBounds_toArray, List.set_cons_zero, List.set_cons_succ])
            refine Lv.linm_step (i := 10) (d := some 47) (v := .tuple #[.agg (outL o O k c).toArray, .int .i64 o.err]) rfl rfl (by kernel_rfl) (by kernel_rfl) rfl rfl (ordm_value (by kernel_rfl) ?_) ?_
            · (intro s' w' _ hS; go_simp)
            (try simp only [Act.put, List.setIfInBounds_toArray, List.set_cons_zero, List.set_cons_succ])
            refine Lv.linm_step (i := 11) (d := some 58) (v := .agg (outL o O k c).toArray) rfl rfl (by kernel_rfl) (by kernel_rfl) rfl rfl (ordm_value (by kernel_rfl) ?_) ?_
            · (intro s' w' _ hS; go_simp)
            (try simp only [Act.put, List.setIfInBounds_toArray, List.set_cons_zero, List.set_cons_succ])
            refine Lv.linm_step (i := 12) (d := some 59) (v := .int .i64 o.err) rfl rfl (by kernel_rfl) (by kernel_rfl) rfl rfl (ordm_value (by kernel_rfl) ?_) ?_
            · (intro s' w' _ hS; go_simp)
            (try simp only [Act.put, List.setIfInBounds_toArray, List.set_cons_zero, List.set_cons_succ])
            refine Lv.linm_sole 14 (di := none) (fun _ s' qi => postVals o s' qi) (fun u s' => u = undef ∧ s' = RunK.s3 O k c S' G) (by kernel_rfl) rfl rfl rfl (lost_no (fun _ _ _ _ => rfl)) (by kernel_rfl) (fun W hS => rn_store hS (.tmp 11) (.tmp 58) rfl rfl rfl) ?_
            rintro _ s' ⟨rfl, rfl⟩
            (try simp only [Act.put, List.setIfInBounds_toArray, List.set_cons_zero, List.set_cons_succ])
            refine Lv.linm_step (i := 15) (d := some 12) (v := .int .i64 o.err) rfl rfl (by kernel_rfl) (by kernel_rfl) rfl rfl (ordm_value (by kernel_rfl) ?_) ?_
            · (intro s' w' _ hS; go_simp)
            (try simp only [Act.put, List.setIfInBounds_toArray, List.set_cons_zero, List.set_cons_succ])
            refine Lv.linm_done (by kernel_rfl) ?_
            intro W hS
            go_wp2_with fail
            go_meet
            case rel => exact ⟨O, k, c, S', G, rfl, rfl, Lib.hid hS⟩
        case rest =>
          obtain ⟨O, k, c', S', G, rfl, rfl, HK⟩ := hcut
          rename World => wx
          have M : Hid (MidA w ba ba2 bb2 w3.heap.size v v2 u2 bs bs2 cs2 S' U2 o O k c' G (dsF s.fs) w.heap.size (.int .i64 s.hook) [.bool s.fit, .slice A n c, .slice E q e0] wx) :=
            Lib.hid (mid_of HK.out P2.out HXR.out BW.out HSU.out (fun y hy => Nat.le_trans HBA.out (HST.out.ge hy)) HXS.out HX4.out HLW.out)
          clear HK P2 HXR BW HSU HST HBW HBA HXS HX3
          obtain ⟨S2, T2, hs1, hs2, hs3, hs4, _, _, hs7, _⟩ := M.out.p
          have HST2 := Lib.hid hs1
          have HTT2 := Lib.hid hs2
          have HDJ2 := Lib.hid hs3
          have HSU2 := Lib.hid hs4
          have HBW2 := Lib.hid hs7
          have HXR2 := Lib.hid M.out.x
          have HXS2 : Hid (¬ S2 w.heap.size) := Lib.hid (fun hh => M.out.offX (hs4 _ hh))
          have BX := Lib.hid M.out.bel
          clear hs1 hs2 hs3 hs4 hs7
          go_upto_region 10 with fail
          go_cut [13, 14] (fun p q' wy => ∃ (O : Option Addr) (k c : Nat) (S' : Nat → Prop) (G : Nat), p = .pointer (some ⟨G, 0, none⟩) ∧ q' = .int .i64 o.err ∧ Hid (RnR wx ba2 v2 bs2 S2 o (Hk.inF s.hook).toNat (ctxF s.hook s.ctx) (.s3 O k c S' G) wy))
          case first =>
            refine Lv.wp_region_linm (RnR wx ba2 (v2) bs2 S2 o (Hk.inF s.hook).toNat (ctxF s.hook s.ctx)) (fun _ _ => true) (fun i => i == 7 || i == 9 || i == 13 || i == 14) (fun qi => [.pointer (some ⟨w.heap.size, 0, none⟩), .int .i64 s.hook, v2, .pointer (some ⟨w.heap.size, 0, none⟩), .int .i64 s.hook, .pointer (some ⟨w.heap.size, 2, none⟩), .slice A n c, undef, .slice B m d, undef, undef, undef, undef, undef, undef, undef].getD qi undef) (RunK.s0 none) (by kernel_rfl) (by kernel_rfl) (⟨(Below.refl _ _).drew, Gz.none⟩) (fun _ => rfl) ?_
            refine Lv.linm_step (i := 0) (d := some 61) (v := .pointer (some ⟨w.heap.size, 0, none⟩)) rfl rfl (by kernel_rfl) (by kernel_rfl) rfl rfl (ordm_value (by kernel_rfl) ?_) ?_
            · (intro s' w' _ hS; go_simp)
            (try simp only [Act.put, List.setIfInBounds_toArray, List.set_cons_zero, List.set_cons_succ])
            refine Lv.linm_step (i := 3) (d := some 64) (v := .pointer (some ⟨w.heap.size, 0, none⟩)) rfl rfl (by kernel_rfl) (by kernel_rfl) rfl rfl (ordm_value (by kernel_rfl) ?_) ?_
            · (intro s' w' _ hS; go_simp)
            (try simp only [Act.put, List.setIfInBounds_toArray, List.set_cons_zero, List.set_cons_succ])
            refine Lv.linm_step (i := 5) (d := some 66) (v := .pointer (some ⟨w.heap.size, 2, none⟩)) rfl rfl (by kernel_rfl) (by kernel_rfl) rfl rfl (ordm_value (by kernel_rfl) ?_) ?_
            · (intro s' w' _ hS; go_simp)
            (try simp only [Act.put, List.setIfInBounds_toArray, List.set_cons_zero, List.set_cons_succ])
            refine Lv.linm_step (i := 1) (d := some 62) (v := .int .i64 s.hook) rfl rfl (by kernel_rfl) (by kernel_rfl) rfl rfl (ordm_value (by kernel_rfl) ?_) ?_
            · (intro s' w' _ hS; have hrr := RnR.row hS HXR2.out HXS2.out; have hcc := hrr.cell 0 _ rfl; go_simp)
            (try simp only [Act.put, List.setIfInBounds_toArray, List.set_cons_zero, List.set_cons_succ])
            refine Lv.linm_step (i := 2) (d := some 63) (v := v2) rfl rfl (by kernel_rfl) (by kernel_rfl) rfl rfl (ordm_value (by kernel_rfl) ?_) ?_
            · (intro s' w' _ hS; go_simp)
            (try simp only [Act.put, List.setIfInBounds_toArray, List.set_cons_zero, List.set_cons_succ])
            refine Lv.linm_step (i := 4) (d := some 65) (v := .int .i64 s.hook) rfl rfl (by kernel_rfl) (by kernel_rfl) rfl rfl (ordm_value (by kernel_rfl) ?_) ?_
            · (intro s' w' _ hS; have hrr := RnR.row hS HXR2.out HXS2.out; have hcc := hrr.cell 0 _ rfl; go_simp)
            (try simp only [Act.put, List.setIfInBounds_toArray, List.set_cons_zero, List.set_cons_succ])
            refine Lv.linm_step (i := 6) (d := some 67) (v := .slice A n c) rfl rfl (by kernel_rfl) (by kernel_rfl) rfl rfl (ordm_value (by kernel_rfl) ?_) ?_
            · (intro s' w' _ hS; have hrr := RnR.row hS HXR2.out HXS2.out; have hcc := hrr.cell 2 _ rfl; go_simp)
            (try simp only [Act.put, List.setIfInBounds_toArray, List.set_cons_zero, List.set_cons_succ])
            refine Lv.linm_step (i := 8) (d := some 69) (v := .slice B m d) rfl rfl (by kernel_rfl) (by kernel_rfl) rfl rfl (ordm_value (by kernel_rfl) ?_) ?_
            · (intro s' w' _ hS; go_simp)
            (try simp only [Act.put, List.setIfInBounds_toArray, List.set_cons_zero, List.set_cons_succ])
            refine Lv.linm_fork2 7 13 (di := some 68) (dj := some 13) (fun _ _ _ => undef) (fun _ _ _ => undef) (fun u s' => ∃ g, u = .slice (some ⟨g, 0, none⟩) (Hk.inF s.hook).toNat (Hk.inF s.hook).toNat ∧ s' = RunK.s1 g none) (fun u s' => ∃ G, u = .pointer (some ⟨G, 0, none⟩) ∧ s' = RunK.s0 (some G)) (by kernel_rfl) (by decide) rfl rfl rfl rfl rfl rfl (lost_no (fun _ _ _ _ => rfl)) (lost_no (fun _ _ _ _ => rfl)) (by kernel_rfl) (fun W hS => rn_ctx rfl rfl (HC.out.step BX.out) (by omega) hS (by go_simp <;> rfl)) (by kernel_rfl) (fun W hS => rn_alloc0 hS (by go_simp; rfl)) ?_ ?_
            · rintro _ s' ⟨g, rfl, rfl⟩
              (try simp only [Act.put, List.setIfInBounds_toArray, List.set_cons_zero, List.set_cons_succ])
              refine Lv.linm_fork2 9 13 (di := some 70) (dj := some 13) (fun _ s' qi => postVals o s' qi) (fun _ _ _ => undef) (fun u s' => ∃ O k c S', u = .tuple #[.agg (outL o O k c).toArray, .int .i64 o.err] ∧ s' = RunK.s2 O k c S' none) (fun u s' => ∃ G, u = .pointer (some ⟨G, 0, none⟩) ∧ s' = RunK.s1 g (some G)) (by kernel_rfl) (by decide) rfl rfl rfl rfl rfl rfl (lost_no (fun _ _ _ _ => rfl)) (lost_no (fun _ _ _ _ => rfl)) (by kernel_rfl) (fun W hS => rn_run HR.out HI.out BX.out HBA2.out HST2.out HBW2.out HDO.out HD4.out (by omega) HN10.out HO.out.symm hS (by go_simp <;> rfl)) (by kernel_rfl) (fun W hS => rn_alloc1 hS (by go_simp; rfl)) ?_ ?_
              · rintro _ s' ⟨O, k, c, S', rfl, rfl⟩
                (try simp only [Act.put, List.setIfInBounds_toArray, List.set_cons_zero, List.set_cons_succ])
                refine Lv.linm_step (i := 10) (d := some 60) (v := .tuple #[.agg (outL o O k c).toArray, .int .i64 o.err]) rfl rfl (by kernel_rfl) (by kernel_rfl) rfl rfl (ordm_value (by kernel_rfl) ?_) ?_
                · (intro s' w' _ hS; go_simp)
                (try simp only [Act.put, List.setIfInBounds_toArray, List.set_cons_zero, List.set_cons_succ])
                refine Lv.linm_step (i := 11) (d := some 71) (v := .agg (outL o O k c).toArray) rfl rfl (by kernel_rfl) (by kernel_rfl) rfl rfl (ordm_value (by kernel_rfl) ?_) ?_
                · (intro s' w' _ hS; go_simp)
                (try simp only [Act.put, List.setIfInBounds_toArray, List.set_cons_zero, List.set_cons_succ])
                refine Lv.linm_step (i := 12) (d := some 72) (v := .int .i64 o.err) rfl rfl (by kernel_rfl) (by kernel_rfl) rfl rfl (ordm_value (by kernel_rfl) ?_) ?_
                · (intro s' w' _ hS; go_simp)
                (try simp only [Act.put, List.setIfInBounds_toArray, List.set_cons_zero, List.set_cons_succ])
                refine Lv.linm_sole 13 (di := some 13) (fun _ s' qi => postVals o s' qi) (fun u s' => ∃ G, u = .pointer (some ⟨G, 0, none⟩) ∧ s' = RunK.s2 O k c S' (some G)) (by kernel_rfl) rfl rfl rfl (lost_no (fun _ _ _ _ => rfl)) (by kernel_rfl) (fun W hS => rn_alloc2 hS (by go_simp; rfl)) ?_
                rintro _ s' ⟨G, rfl, rfl⟩
                (try simp only [Act.put, List.setIfInBounds_toArray, List.set_cons_zero, List.set_cons_succ])
                refine Lv.linm_sole 14 (di := none) (fun _ s' qi => postVals o s' qi) (fun u s' => u = undef ∧ s' = RunK.s3 O k c S' G) (by kernel_rfl) rfl rfl rfl (lost_no (fun _ _ _ _ => rfl)) (by kernel_rfl) (fun W hS => rn_store hS (.tmp 13) (.tmp 71) rfl rfl rfl) ?_
                rintro _ s' ⟨rfl, rfl⟩
                (try simp only [Act.put, List.setIfInBounds_toArray, List.set_cons_zero, List.set_cons_succ])
                refine Lv.linm_step (i := 15) (d := some 14) (v := .int .i64 o.err) rfl rfl (by kernel_rfl) (by kernel_rfl) rfl rfl (ordm_value (by kernel_rfl) ?_) ?_
                · (intro s' w' _ hS; go_simp)
                (try simp only [Act.put, List.setIfInBounds_toArray, List.set_cons_zero, List.set_cons_succ])
                refine Lv.linm_done (by kernel_rfl) ?_
                intro W hS
                go_wp2_with fail
                go_meet
                case rel => exact ⟨O, k, c, S', G, rfl, rfl, Lib.hid hS⟩
              · rintro _ s' ⟨G, rfl, rfl⟩
                (try simp only [Act.put, List.setIfInBounds_toArray, List.set_cons_zero, List.set_cons_succ])
                refine Lv.linm_sole 9 (di := some 70) (fun _ s' qi => postVals o s' qi) (fun u s' => ∃ O k c S', u = .tuple #[.agg (outL o O k c).toArray, .int .i64 o.err] ∧ s' = RunK.s2 O k c S' (some G)) (by kernel_rfl) rfl rfl rfl (lost_no (fun _ _ _ _ => rfl)) (by kernel_rfl) (fun W hS => rn_run HR.out HI.out BX.out HBA2.out HST2.out HBW2.out HDO.out HD4.out (by omega) HN10.out HO.out.symm hS (by go_simp <;> rfl)) ?_
                rintro _ s' ⟨O, k, c, S', rfl, rfl⟩
                (try simp only [Act.put, List.setIfInBounds_toArray, List.set_cons_zero, List.set_cons_succ])
                refine Lv.linm_step (i := 10) (d := some 60) (v := .tuple #[.agg (outL o O k c).toArray, .int .i64 o.err]) rfl rfl (by kernel_rfl) (by kernel_rfl) rfl rfl (ordm_value (by kernel_rfl) ?_) ?_
                · (intro s' w' _ hS; go_simp)
                (try simp only [Act.put, List.setIfInBounds_toArray, List.set_cons_zero, List.set_cons_succ])
                refine Lv.linm_step (i := 11) (d := some 71) (v := .agg (outL o O k c).toArray) rfl rfl (by kernel_rfl) (by kernel_rfl) rfl rfl (ordm_value (by kernel_rfl) ?_) ?_
                · (intro s' w' _ hS; go_simp)
                (try simp only [Act.put, List.setIfInBounds_toArray, List.set_cons_zero, List.set_cons_succ])
                refine Lv.linm_step (i := 12) (d := some 72) (v := .int .i64 o.err) rfl rfl (by kernel_rfl) (by kernel_rfl) rfl rfl (ordm_value (by kernel_rfl) ?_) ?_
                · (intro s' w' _ hS; go_simp)
                (try simp only [Act.put, List.setIfInBounds_toArray, List.set_cons_zero, List.set_cons_succ])
                refine Lv.linm_sole 14 (di := none) (fun _ s' qi => postVals o s' qi) (fun u s' => u = undef ∧ s' = RunK.s3 O k c S' G) (by kernel_rfl) rfl rfl rfl (lost_no (fun _ _ _ _ => rfl)) (by kernel_rfl) (fun W hS => rn_store hS (.tmp 13) (.tmp 71) rfl rfl rfl) ?_
                rintro _ s' ⟨rfl, rfl⟩
                (try simp only [Act.put, List.setIfInBounds_toArray, List.set_cons_zero, List.set_cons_succ])
                refine Lv.linm_step (i := 15) (d := some 14) (v := .int .i64 o.err) rfl rfl (by kernel_rfl) (by kernel_rfl) rfl rfl (ordm_value (by kernel_rfl) ?_) ?_
                · (intro s' w' _ hS; go_simp)
                (try simp only [Act.put, List.setIfInBounds_toArray, List.set_cons_zero, List.set_cons_succ])
                refine Lv.linm_done (by kernel_rfl) ?_
                intro W hS
                go_wp2_with fail
                go_meet
                case rel => exact ⟨O, k, c, S', G, rfl, rfl, Lib.hid hS⟩
            · rintro _ s' ⟨G, rfl, rfl⟩
              (try simp only [Act.put, List.setIfInBounds_toArray, List.set_cons_zero, List.set_cons_succ])
              refine Lv.linm_sole 7 (di := some 68) (fun _ _ _ => undef) (fun u s' => ∃ g, u = .slice (some ⟨g, 0, none⟩) (Hk.inF s.hook).toNat (Hk.inF s.hook).toNat ∧ s' = RunK.s1 g (some G)) (by kernel_rfl) rfl rfl rfl (lost_no (fun _ _ _ _ => rfl)) (by kernel_rfl) (fun W hS => rn_ctx rfl rfl (HC.out.step BX.out) (by omega) hS (by go_simp <;> rfl)) ?_
              rintro _ s' ⟨g, rfl, rfl⟩
              (try simp only [Act.put, List.setIfInBounds_toArray, List.set_cons_zero, List.set_cons_succ])
              refine Lv.linm_sole 9 (di := some 70) (fun _ s' qi => postVals o s' qi) (fun u s' => ∃ O k c S', u = .tuple #[.agg (outL o O k c).toArray, .int .i64 o.err] ∧ s' = RunK.s2 O k c S' (some G)) (by kernel_rfl) rfl rfl rfl (lost_no (fun _ _ _ _ => rfl)) (by kernel_rfl) (fun W hS => rn_run HR.out HI.out BX.out HBA2.out HST2.out HBW2.out HDO.out HD4.out (by omega) HN10.out HO.out.symm hS (by go_simp <;> rfl)) ?_
              rintro _ s' ⟨O, k, c, S', rfl, rfl⟩
              (try simp only [Act.put, List.setIfInBounds_toArray, List.set_cons_zero, List.set_cons_succ])
              refine Lv.linm_step (i := 10) (d := some 60) (v := .tuple #[.agg (outL o O k c).toArray, .int .i64 o.err]) rfl rfl (by kernel_rfl) (by kernel_rfl) rfl rfl (ordm_value (by kernel_rfl) ?_) ?_
              · (intro s' w' _ hS; go_simp)
              (try simp only [Act.put, List.setIfInBounds_toArray, List.set_cons_zero, List.set_cons_succ])
              refine Lv.linm_step (i := 11) (d := some 71) (v := .agg (outL o O k c).toArray) rfl rfl (by kernel_rfl) (by kernel_rfl) rfl rfl (ordm_value (by kernel_rfl) ?_) ?_
              · (intro s' w' _ hS; go_simp)
              (try simp only [Act.put, List.setIfInBounds_toArray, List.set_cons_zero, List.set_cons_succ])
              refine Lv.linm_step (i := 12) (d := some 72) (v := .int .i64 o.err) rfl rfl (by kernel_rfl) (by kernel_rfl) rfl rfl (ordm_value (by kernel_rfl) ?_) ?_
              · (intro s' w' _ hS; go_simp)
              (try simp only [Act.put, List.setIfInBounds_toArray, List.set_cons_zero, List.set_cons_succ])
              refine Lv.linm_sole 14 (di := none) (fun _ s' qi => postVals o s' qi) (fun u s' => u = undef ∧ s' = RunK.s3 O k c S' G) (by kernel_rfl) rfl rfl rfl (lost_no (fun _ _ _ _ => rfl)) (by kernel_rfl) (fun W hS => rn_store hS (.tmp 13) (.tmp 71) rfl rfl rfl) ?_
              rintro _ s' ⟨rfl, rfl⟩
              (try simp only [Act.put, List.setIfInBounds_toArray, List.set_cons_zero, List.set_cons_succ])
              refine Lv.linm_step (i := 15) (d := some 14) (v := .int .i64 o.err) rfl rfl (by kernel_rfl) (by kernel_rfl) rfl rfl (ordm_value (by kernel_rfl) ?_) ?_
              · (intro s' w' _ hS; go_simp)
              (try simp only [Act.put, List.setIfInBounds_toArray, List.set_cons_zero, List.set_cons_succ])
              refine Lv.linm_done (by kernel_rfl) ?_
              intro W hS
              go_wp2_with fail
              go_meet
              case rel => exact ⟨O, k, c, S', G, rfl, rfl, Lib.hid hS⟩
          case rest =>
            obtain ⟨O2, k2, c2, S2', G2, rfl, rfl, HK⟩ := hcut
            rename World => wy
            obtain ⟨C, rs, hC0, hC1, hC2, hC3, hC4, hC5, hC6, hC7, hC8, hC9, hC10⟩ := class_of M.out HSU2.out HTT2.out HDJ2.out HK.out
            have HS := Lib.hid hC1
            have HSA := Lib.hid hC2
            have HSB := Lib.hid hC3
            have HSR := Lib.hid hC4
            have HO1 := Lib.hid hC5
            have HO2 := Lib.hid hC6
            have HG1 := Lib.hid hC7
            have HG2 := Lib.hid hC8
            have HX := Lib.hid hC9
            have HBL := Lib.hid hC10
            have CC := Lib.hid hC0
            clear hC0 hC1 hC2 hC3 hC4 hC5 hC6 hC7 hC8 hC9 hC10 HK M HST2 HTT2 HDJ2 HSU2 HBW2 HXR2 HXS2 BX HBA2 HX4 HLW HDO HD4 HN10 HO HXZ HX2 HI HC HR HA
            have HK1 : Hid (k ≤ 1000) := Lib.hid (by have h1 := (HO1.out _ CC.out).len; have h2 := HAG.out.out; omega)
            have HK2 : Hid (k2 ≤ 1000) := Lib.hid (by have h1 := (HO2.out _ CC.out).len; have h2 := HAG.out.out; omega)
            have HS7 : Hid (∀ W, C W → Calls Try.prog 14 #[.slice O k c', .slice O2 k2 c2] W fun e w' => e = .returned (.bool true) ∧ C w') := Lib.hid (fun W hC => (rsame7_any O O2 k k2 c' c2 o.out o.out W (HO1.out W hC) (HO2.out W hC) HK1.out HK2.out).mono (fun e w' ⟨he, hb⟩ => ⟨by rw [he]; simp, HS.out _ _ hC hb⟩))
            obtain ⟨Av, cv, hv⟩ := st_slice (HSA.out _ CC.out)
            rw [HAG.out.len, HF.out.len] at hv
            subst hv
            have r1 := HG1.out _ CC.out
            have r2 := HG2.out _ CC.out
            have p0 : wy.cell? ⟨G, 0, none⟩ = some (.int .i64 o.how) := r1.cell 0 _ rfl
            have p1 : wy.cell? ⟨G, 1, none⟩ = some (.int .i64 o.why) := r1.cell 1 _ rfl
            have p2 : wy.cell? ⟨G, 2, none⟩ = some (.int .i64 o.verdict) := r1.cell 2 _ rfl
            have p3 : wy.cell? ⟨G, 3, none⟩ = some (.int .i64 o.steps) := r1.cell 3 _ rfl
            have p4 : wy.cell? ⟨G, 4, none⟩ = some (.slice O k c') := r1.cell 4 _ rfl
            have q0 : wy.cell? ⟨G2, 0, none⟩ = some (.int .i64 o.how) := r2.cell 0 _ rfl
            have q1 : wy.cell? ⟨G2, 1, none⟩ = some (.int .i64 o.why) := r2.cell 1 _ rfl
            have q2 : wy.cell? ⟨G2, 2, none⟩ = some (.int .i64 o.verdict) := r2.cell 2 _ rfl
            have q3 : wy.cell? ⟨G2, 3, none⟩ = some (.int .i64 o.steps) := r2.cell 3 _ rfl
            have q4 : wy.cell? ⟨G2, 4, none⟩ = some (.slice O2 k2 c2) := r2.cell 4 _ rfl
            clear r1 r2 HK1 HK2 HO1 HO2 HG1 HG2
            go_wp2_with (go_at_call 14; (with_reducible refine (HS7.out _ CC.out).mono ?_); rintro e w5 ⟨rfl, hC⟩; have CC5 := Lib.hid hC; clear hC)
            clear p0 p1 p2 p3 p4 q0 q1 q2 q3 q4 CC HS7
            go_loopw [15, 17, 18, 19, 114] (fun _ _ _ _ i wr => ∃ t : Nat, t ≤ q ∧ i = .int .i64 (t : Int) ∧ Hid (C wr)) (fun _ _ _ _ i _ => q - (intOf i).toNat)
            case atStart => exact ⟨0, Nat.zero_le _, rfl, CC5⟩
            case round =>
              clear CC5
              obtain ⟨t, ht, rfl, CC⟩ := hrel
              by_cases hlt : t < q
              · have hd : o.ds[t]? = some (o.ds[t]'(by rw [HAG.out.len, HF.out.len]; exact hlt)) := List.getElem?_eq_getElem _
                generalize o.ds[t]'(by rw [HAG.out.len, HF.out.len]; exact hlt) = d0 at hd
                have hf : s.fs[t]? = some (s.fs[t]'(by rw [HF.out.len]; exact hlt)) := List.getElem?_eq_getElem _
                generalize s.fs[t]'(by rw [HF.out.len]; exact hlt) = f0 at hf
                have hok := HAG.out.ok t d0 hd
                have HFG : Hid (goodFl f0 = true) := Lib.hid (List.all_eq_true.1 HCOND.out.2 f0 (List.mem_of_getElem? hf))
                obtain ⟨pb, hpb⟩ : ∃ pb, bs.getD t 0 = pb := ⟨_, rfl⟩
                obtain ⟨pb2, hpb2⟩ : ∃ pb, bs2.getD t 0 = pb := ⟨_, rfl⟩
                obtain ⟨l, hl⟩ : ∃ l, d0.l = l := ⟨_, rfl⟩
                have HAT1 : Hid (∀ W, C W → Calls Try.prog 17 #[.slice Av q cv, .int .i64 (t : Int)] W fun e w' => e = .returned (.pointer (some ⟨pb, 0, none⟩)) ∧ W = w') := Lib.hid (fun W hC => by rw [← hpb]; exact st_at (HSA.out W hC) hd)
                have HAT2 : Hid (∀ W, C W → Calls Try.prog 17 #[v2, .int .i64 (t : Int)] W fun e w' => e = .returned (.pointer (some ⟨pb2, 0, none⟩)) ∧ W = w') := Lib.hid (fun W hC => by rw [← hpb2]; exact st_at (HSB.out W hC) hd)
                have HAL1 : Hid (∀ W, C W → Calls Try.prog 18 #[.pointer (some ⟨pb, 0, none⟩)] W fun e w' => ∃ A c, e = .returned (.slice A l.length c) ∧ EnsAt w' A l.length l ∧ C w' ∧ Below W.heap.size W w') := Lib.hid (fun W hC => by
                  rw [← hpb, ← hl]
                  exact (st_all (HSA.out W hC) hd hok).mono (fun e w' ⟨A, c, he, hen, hb⟩ => ⟨A, c, he, hen, HS.out _ _ hC hb, hb⟩))
                have HAL2 : Hid (∀ W, C W → Calls Try.prog 18 #[.pointer (some ⟨pb2, 0, none⟩)] W fun e w' => ∃ A c, e = .returned (.slice A l.length c) ∧ EnsAt w' A l.length l ∧ C w' ∧ Below W.heap.size W w') := Lib.hid (fun W hC => by
                  rw [← hpb2, ← hl]
                  exact (st_all (HSB.out W hC) hd hok).mono (fun e w' ⟨A, c, he, hen, hb⟩ => ⟨A, c, he, hen, HS.out _ _ hC hb, hb⟩))
                have HLS : Hid (l.length ≤ 1000) := Lib.hid (by rw [← hl]; have := hok.1; have := hok.2.2; omega)
                have HPL : Hid (∀ W A c, EnsAt W A l.length l → C W → Calls Try.prog 16 #[.slice A l.length c] W fun e w' => ∃ A c, e = .returned (.slice A l.length c) ∧ EnsAt w' A l.length l ∧ C w' ∧ Below W.heap.size W w') := Lib.hid (fun W A c he hC =>
                  (plain_any A l.length c l W he HLS.out).mono (fun e w' ⟨A, c, he, hen, hb⟩ => ⟨A, c, he, hen, HS.out _ _ hC hb, hb⟩))
                have HSM : Hid (∀ W A A2 c c2, EnsAt W A l.length l → EnsAt W A2 l.length l → C W → Calls Try.prog 15 #[.slice A l.length c, .slice A2 l.length c2] W fun e w' => e = .returned (.bool true) ∧ C w') := Lib.hid (fun W A A2 c c2 he he2 hC =>
                  (rsame_any A A2 l.length l.length c c2 l l W he he2 HLS.out HLS.out).mono (fun e w' ⟨he, hb⟩ => ⟨by rw [he]; simp, HS.out _ _ hC hb⟩))
                have HLN : Hid (∀ W, C W → Calls Try.prog 20 #[.pointer (some ⟨pb, 0, none⟩)] W fun e w' => e = .returned (.int .i64 (l.length : Int)) ∧ C w') := Lib.hid (fun W hC => by
                  rw [← hpb, ← hl]
                  exact (st_len (HSA.out W hC) hd).mono (fun e w' ⟨he, hb⟩ => ⟨he, HS.out _ _ hC hb⟩))
                have HGT : Hid (∀ W key, C W → Calls Try.prog 21 #[.pointer (some ⟨pb, 0, none⟩), .int .i64 key] W fun e w' => e = .returned (gotV (Z.getI key l)) ∧ Below W.heap.size W w') := Lib.hid (fun W key hC => by
                  rw [← hpb, ← hl]
                  exact st_get (HSA.out W hC) hd hok key)
                obtain ⟨lr, hlr⟩ : ∃ lr, (dtF f0).l = lr := ⟨_, rfl⟩
                have HKY : Hid (Hk.toldF s.hook = false → l.length = lr.length ∧ ∀ k, Z.has k lr = true → Z.has k l = true) := Lib.hid (fun ht => by rw [← hl, ← hlr]; exact HAG.out.keys ht t f0 d0 hf hd)
                have HLR := Lib.hid hlr
                have HDF := Lib.hid (dsF_get hf)
                have hq4 := HCOND.out.1
                have ht0 : (0 : Int) ≤ (t : Int) := by omega
                have ht1 : (t : Int) < (q : Int) := by omega
                clear hd hf hok hpb hpb2 hl hlr
                cases htl : Hk.toldF s.hook with
                | true =>
                  have HTL := Lib.hid htl
                  clear htl
                  go_wp2_with (first
                    | (go_at_call 17; (first | (with_reducible refine (HAT1.out _ CC.out).mono ?_) | (with_reducible refine (HAT2.out _ CC.out).mono ?_)); rintro e w6 ⟨rfl, rfl⟩)
                    | (go_at_call 18; (with_reducible refine (HAL1.out _ CC.out).mono ?_); rintro e w6 ⟨A1, c1, rfl, hen, hC, hb⟩; have EN1 := Lib.hid hen; replace CC := Lib.hid hC; clear hen hC hb)
                    | (go_at_call 18; (with_reducible refine (HAL2.out _ CC.out).mono ?_); rintro e w6 ⟨A2, c2, rfl, hen, hC, hb⟩; have EN2 := Lib.hid hen; replace CC := Lib.hid hC; replace FN1 := Lib.hid (FN1.out.step hb); clear hen hC hb)
                    | (go_at_call 16; (with_reducible refine (HPL.out _ _ _ EN1.out CC.out).mono ?_); rintro e w6 ⟨A1, c1, rfl, hen, hC, hb⟩; have FN1 := Lib.hid hen; replace CC := Lib.hid hC; clear hen hC hb EN1)
                    | (go_at_call 16; (with_reducible refine (HPL.out _ _ _ EN2.out CC.out).mono ?_); rintro e w6 ⟨A2, c2, rfl, hen, hC, hb⟩; have FN2 := Lib.hid hen; replace CC := Lib.hid hC; replace FN1 := Lib.hid (FN1.out.step hb); clear hen hC hb EN2)
                    | (go_at_call 15; (with_reducible refine (HSM.out _ _ _ _ _ FN1.out FN2.out CC.out).mono ?_); rintro e w6 ⟨rfl, hC⟩; replace CC := Lib.hid hC; clear hC FN1 FN2; have hx0 := (HX.out _ CC.out).cell 0 _ rfl)
                    | (go_at_call 19; refine (told_any s.hook _).mono ?_; rw [HTL.out]; rintro e w6 ⟨rfl, rfl⟩; clear hx0))
                  go_roundw
                  case rel => exact ⟨t + 1, by omega, by go_num, CC⟩
                  case measure => (simp [intOf] <;> omega)
                | false =>
                  have HTL := Lib.hid htl
                  clear htl
                  go_upto_region 19 with (first
                    | (go_at_call 17; (first | (with_reducible refine (HAT1.out _ CC.out).mono ?_) | (with_reducible refine (HAT2.out _ CC.out).mono ?_)); rintro e w6 ⟨rfl, rfl⟩)
                    | (go_at_call 18; (with_reducible refine (HAL1.out _ CC.out).mono ?_); rintro e w6 ⟨A1, c1, rfl, hen, hC, hb⟩; have EN1 := Lib.hid hen; replace CC := Lib.hid hC; clear hen hC hb)
                    | (go_at_call 18; (with_reducible refine (HAL2.out _ CC.out).mono ?_); rintro e w6 ⟨A2, c2, rfl, hen, hC, hb⟩; have EN2 := Lib.hid hen; replace CC := Lib.hid hC; replace FN1 := Lib.hid (FN1.out.step hb); clear hen hC hb)
                    | (go_at_call 16; (with_reducible refine (HPL.out _ _ _ EN1.out CC.out).mono ?_); rintro e w6 ⟨A1, c1, rfl, hen, hC, hb⟩; have FN1 := Lib.hid hen; replace CC := Lib.hid hC; clear hen hC hb EN1)
                    | (go_at_call 16; (with_reducible refine (HPL.out _ _ _ EN2.out CC.out).mono ?_); rintro e w6 ⟨A2, c2, rfl, hen, hC, hb⟩; have FN2 := Lib.hid hen; replace CC := Lib.hid hC; replace FN1 := Lib.hid (FN1.out.step hb); clear hen hC hb EN2)
                    | (go_at_call 15; (with_reducible refine (HSM.out _ _ _ _ _ FN1.out FN2.out CC.out).mono ?_); rintro e w6 ⟨rfl, hC⟩; replace CC := Lib.hid hC; clear hC FN1 FN2; have hx0 := (HX.out _ CC.out).cell 0 _ rfl)
                    | (go_at_call 19; refine (told_any s.hook _).mono ?_; rw [HTL.out]; rintro e w6 ⟨rfl, rfl⟩; clear hx0))
                  obtain ⟨e1, HK⟩ := HKY.out HTL.out
                  have HHK := Lib.hid HK
                  rw [e1] at HLN
                  clear HK HKY e1
                  obtain ⟨su, hr⟩ := (HSR.out _ CC.out).is t (dtF f0) HDF.out
                  have hdl : (dsF s.fs).length = q := by unfold dsF; rw [List.length_map, HF.out.len]
                  obtain ⟨gu, cu, eu, _, _, huc⟩ := own_pget (HSR.out _ CC.out).own (i := t) (by rw [hdl]; exact hlt)
                  rw [hdl] at eu
                  subst eu
                  obtain ⟨cb, hcb⟩ : ∃ cb, cs2.getD t 0 = cb := ⟨_, rfl⟩
                  have HUC : Hid (∀ W, C W → W.cell? ⟨gu, t, none⟩ = some (.pointer (some ⟨cb, 0, none⟩))) := Lib.hid (fun W hC => by
                    obtain ⟨g', c', e', _, _, h'⟩ := own_pget (HSR.out W hC).own (i := t) (by rw [hdl]; exact hlt)
                    injection e' with e' _ _
                    injection e' with e'
                    injection e' with e'
                    rw [e', ← hcb]
                    exact h')
                  have hsu := ((HSR.out _ CC.out).all.each t _ hr).own
                  obtain ⟨A2, c2, hsl⟩ := owns_slice hsu
                  have hsl2 : su = .slice A2 lr.length c2 := by rw [← HLR.out]; exact hsl
                  subst hsl2
                  have HRC : Hid (∀ W, C W → W.cell? ⟨cb, 2, none⟩ = some (.slice A2 lr.length c2)) := Lib.hid (fun W hC => by
                    have := (MpAt.row ((HSR.out W hC).all.each t _ hr)).cell 2 _ rfl
                    rw [← hcb]
                    exact this)
                  have HEN : Hid (∀ W, C W → EnsAt W A2 lr.length lr) := Lib.hid (fun W hC => by
                    have := (MpAt.own ((HSR.out W hC).all.each t _ hr))
                    rw [← HLR.out]
                    rw [← HLR.out] at this
                    exact own_ens this rfl)
                  have HLRS : Hid (lr.length ≤ 1000) := Lib.hid (by rw [← HLR.out]; have h1 := dsF_ok HCOND.out.2 _ (List.mem_of_getElem? HDF.out); have := h1.1; have := h1.2.2; omega)
                  clear hr hdl huc hcb hsu hsl
                  refine wq_region (C := C) (by kernel_rfl) (HS.out _ _ CC.out (Below.refl _ _).drew) ?_
                  refine wq_take (.slice Av q cv) (by kernel_rfl) ?_ ?_
                  · (intro w' hS; go_simp)
                  (try simp only [Act.put, List.setIfInBounds_toArray, List.set_cons_zero, List.set_cons_succ])
                  refine wq_take (.int .i64 (t : Int)) (by kernel_rfl) ?_ ?_
                  · (intro w' hS; go_simp)
                  (try simp only [Act.put, List.setIfInBounds_toArray, List.set_cons_zero, List.set_cons_succ])
                  refine wq_call 17 #[.slice Av q cv, .int .i64 (t : Int)] (.pointer (some ⟨pb, 0, none⟩)) (by kernel_rfl) (fun _ => by go_simp <;> rfl) (fun W hC => (HAT1.out W hC).mono (fun e w' ⟨he, hw⟩ => ⟨he, hw ▸ hC⟩)) ?_
                  (try simp only [Act.put, List.setIfInBounds_toArray, List.set_cons_zero, List.set_cons_succ])
                  refine wq_call 20 #[.pointer (some ⟨pb, 0, none⟩)] (.int .i64 (lr.length : Int)) (by kernel_rfl) (fun _ => by go_simp <;> rfl) (fun W hC => HLN.out W hC) ?_
                  (try simp only [Act.put, List.setIfInBounds_toArray, List.set_cons_zero, List.set_cons_succ])
                  refine wq_take (.slice (some ⟨gu, 0, none⟩) q cu) (by kernel_rfl) ?_ ?_
                  · (intro w' hS; go_simp)
                  (try simp only [Act.put, List.setIfInBounds_toArray, List.set_cons_zero, List.set_cons_succ])
                  refine wq_take (.int .i64 (t : Int)) (by kernel_rfl) ?_ ?_
                  · (intro w' hS; go_simp)
                  (try simp only [Act.put, List.setIfInBounds_toArray, List.set_cons_zero, List.set_cons_succ])
                  refine wq_take (.pointer (some ⟨gu, t, none⟩)) (by kernel_rfl) ?_ ?_
                  · (intro w' hS; go_simp)
                  (try simp only [Act.put, List.setIfInBounds_toArray, List.set_cons_zero, List.set_cons_succ])
                  refine wq_take (.pointer (some ⟨cb, 0, none⟩)) (by kernel_rfl) ?_ ?_
                  · (intro w' hS; have hcc := HUC.out w' hS; go_simp)
                  (try simp only [Act.put, List.setIfInBounds_toArray, List.set_cons_zero, List.set_cons_succ])
                  refine wq_take (.pointer (some ⟨cb, 0, none⟩)) (by kernel_rfl) ?_ ?_
                  · (intro w' hS; go_simp)
                  (try simp only [Act.put, List.setIfInBounds_toArray, List.set_cons_zero, List.set_cons_succ])
                  refine wq_take (.pointer (some ⟨cb, 2, none⟩)) (by kernel_rfl) ?_ ?_
                  · (intro w' hS; go_simp)
                  (try simp only [Act.put, List.setIfInBounds_toArray, List.set_cons_zero, List.set_cons_succ])
                  refine wq_take (.slice A2 lr.length c2) (by kernel_rfl) ?_ ?_
                  · (intro w' hS; have hcc := HRC.out w' hS; go_simp)
                  (try simp only [Act.put, List.setIfInBounds_toArray, List.set_cons_zero, List.set_cons_succ])
                  refine wq_take (.int .i64 (lr.length : Int)) (by kernel_rfl) ?_ ?_
                  · (intro w' hS; go_simp)
                  (try simp only [Act.put, List.setIfInBounds_toArray, List.set_cons_zero, List.set_cons_succ])
                  refine wq_take (.bool false) (by kernel_rfl) ?_ ?_
                  · (intro w' hS; go_simp)
                  (try simp only [Act.put, List.setIfInBounds_toArray, List.set_cons_zero, List.set_cons_succ])
                  refine wq_nil ?_
                  intro w6 hC
                  replace CC := Lib.hid hC
                  clear hC
                  have huc := HUC.out _ CC.out
                  have hrc := HRC.out _ CC.out
                  have hlrs := HLRS.out
                  go_wp2
                  clear huc hrc
                  go_loopw [17, 18, 19, 153] (fun _ _ _ j wr => ∃ r : Nat, r ≤ lr.length ∧ j = .int .i64 (r : Int) ∧ Hid (C wr)) (fun _ _ _ j _ => lr.length - (intOf j).toNat)
                  case atStart => exact ⟨0, Nat.zero_le _, rfl, CC⟩
                  case round =>
                    clear CC
                    obtain ⟨r, hr, rfl, CC⟩ := hrel
                    rename World => wl
                    by_cases hrl : r < lr.length
                    · obtain ⟨b2, off2, x, hE, hb2, hx2, hc2⟩ := (HEN.out _ CC.out).get r hrl
                      subst hE
                      have HC2 := Lib.hid hc2
                      obtain ⟨y, hy⟩ := get_has (HHK.out x.key ((Z.has_iff _ _).2 ⟨x, List.mem_of_getElem? hx2, rfl⟩))
                      have HY := Lib.hid hy
                      have hr0 : (0 : Int) ≤ (r : Int) := by omega
                      have hr1 : (r : Int) < (lr.length : Int) := by omega
                      clear hc2 hy hx2 hb2
                      go_upto_region 24 with (first
                        | ((with_reducible refine wpList_load_at renT HC2.out (enL_length _) rfl (.tmp 155) rfl ?_ ?_); (exact rfl))
                        | ((with_reducible refine wpList_store_newrow renT (vs := enL x) (enL_length _) (enL_one _) rfl (.tmp 17) (.tmp 156) rfl rfl ?_ ?_ ?_); (exact rfl); (exact rfl); intro w5 hP hb hz; have HKC := Lib.hid hP; replace CC := Lib.hid (HS.out _ _ CC.out hb); clear hP hb hz HC2; generalize wl.heap.size = G5 at HKC ⊢))
                      refine wp_region_linm (GkR w5) (fun _ _ => true) (fun i => i == 9 || i == 10) (fun qi => [.slice Av q cv, .int .i64 (t : Int), .pointer (some ⟨pb, 0, none⟩), .pointer (some ⟨G5, 0, none⟩), .int .i64 x.key, .tuple #[.agg (wordsL y).toArray, .bool true], .tuple #[.agg (wordsL y).toArray, .bool true], .agg (wordsL y).toArray, .bool true, undef, undef, .bool true].getD qi undef) (GK.a none) (by kernel_rfl) (by kernel_rfl) (⟨(Below.refl _ _).drew, fun b e => by cases e⟩) (fun _ => rfl) ?_
                      refine linm_step (i := 0) (d := some 158) (v := .slice Av q cv) rfl rfl (by kernel_rfl) (by kernel_rfl) rfl rfl (ordm_value (by kernel_rfl) ?_) ?_
                      · (intro _ w' _ hS; go_simp)
                      (try simp only [Act.put, List.setIfInBounds_toArray, List.set_cons_zero, List.set_cons_succ])
                      refine linm_step (i := 1) (d := some 159) (v := .int .i64 (t : Int)) rfl rfl (by kernel_rfl) (by kernel_rfl) rfl rfl (ordm_value (by kernel_rfl) ?_) ?_
                      · (intro _ w' _ hS; go_simp)
                      (try simp only [Act.put, List.setIfInBounds_toArray, List.set_cons_zero, List.set_cons_succ])
                      refine linm_step (i := 2) (d := some 160) (v := .pointer (some ⟨pb, 0, none⟩)) rfl rfl (by kernel_rfl) (by kernel_rfl) rfl rfl (ordm_call (f := 17) (args := #[.slice Av q cv, .int .i64 (t : Int)]) (by kernel_rfl) ?_ (fun s W _ hS => (HAT1.out W (HS.out _ _ CC.out (gk_bel hS))).mono fun _ _ h => ⟨h.1, h.2 ▸ hS⟩)) ?_
                      · (intro _; go_simp <;> rfl)
                      (try simp only [Act.put, List.setIfInBounds_toArray, List.set_cons_zero, List.set_cons_succ])
                      refine linm_step (i := 3) (d := some 161) (v := .pointer (some ⟨G5, 0, none⟩)) rfl rfl (by kernel_rfl) (by kernel_rfl) rfl rfl (ordm_value (by kernel_rfl) ?_) ?_
                      · (intro _ w' _ hS; go_simp)
                      (try simp only [Act.put, List.setIfInBounds_toArray, List.set_cons_zero, List.set_cons_succ])
                      refine linm_step (i := 4) (d := some 162) (v := .int .i64 x.key) rfl rfl (by kernel_rfl) (by kernel_rfl) rfl rfl (ordm_value (by kernel_rfl) ?_) ?_
                      · (intro _ w' _ hS; have hcc := (HKC.out.step (gk_bel hS)).cell 0 _ rfl; go_simp)
                      (try simp only [Act.put, List.setIfInBounds_toArray, List.set_cons_zero, List.set_cons_succ])
                      refine linm_step (i := 5) (d := some 163) (v := .tuple #[.agg (wordsL y).toArray, .bool true]) rfl rfl (by kernel_rfl) (by kernel_rfl) rfl rfl (ordm_call (f := 21) (args := #[.pointer (some ⟨pb, 0, none⟩), .int .i64 x.key]) (by kernel_rfl) ?_ (fun s W _ hS => (HGT.out W x.key (HS.out _ _ CC.out (gk_bel hS))).mono fun _ _ h => ⟨by rw [h.1, HY.out]; rfl, gk_call hS h.2⟩)) ?_
                      · (intro _; go_simp <;> rfl)
                      (try simp only [Act.put, List.setIfInBounds_toArray, List.set_cons_zero, List.set_cons_succ])
                      refine linm_step (i := 6) (d := some 157) (v := .tuple #[.agg (wordsL y).toArray, .bool true]) rfl rfl (by kernel_rfl) (by kernel_rfl) rfl rfl (ordm_value (by kernel_rfl) ?_) ?_
                      · (intro _ w' _ hS; go_simp)
                      (try simp only [Act.put, List.setIfInBounds_toArray, List.set_cons_zero, List.set_cons_succ])
                      refine linm_step (i := 7) (d := some 164) (v := .agg (wordsL y).toArray) rfl rfl (by kernel_rfl) (by kernel_rfl) rfl rfl (ordm_value (by kernel_rfl) ?_) ?_
                      · (intro _ w' _ hS; go_simp)
                      (try simp only [Act.put, List.setIfInBounds_toArray, List.set_cons_zero, List.set_cons_succ])
                      refine linm_step (i := 8) (d := some 165) (v := .bool true) rfl rfl (by kernel_rfl) (by kernel_rfl) rfl rfl (ordm_value (by kernel_rfl) ?_) ?_
                      · (intro _ w' _ hS; go_simp)
                      (try simp only [Act.put, List.setIfInBounds_toArray, List.set_cons_zero, List.set_cons_succ])
                      refine linm_sole 9 (di := some 18) (fun u s' => ∃ b, u = .pointer (some ⟨b, 0, none⟩) ∧ s' = GK.a (some b)) (by kernel_rfl) rfl rfl rfl (lost_no (fun _ _ _ _ => rfl)) (by kernel_rfl) (fun W hS => gk_alloc hS (by go_simp <;> rfl)) ?_
                      rintro _ s' ⟨gb, rfl, rfl⟩
                      (try simp only [Act.put, List.setIfInBounds_toArray, List.set_cons_zero, List.set_cons_succ])
                      refine linm_sole 10 (di := none) (fun u s' => u = undef ∧ s' = GK.b) (by kernel_rfl) rfl rfl rfl (lost_no (fun _ _ _ _ => rfl)) (by kernel_rfl) (fun W hS => gk_store (e := y) hS (.tmp 18) (.tmp 164) rfl rfl rfl) ?_
                      rintro _ s' ⟨rfl, rfl⟩
                      (try simp only [Act.put, List.setIfInBounds_toArray, List.set_cons_zero, List.set_cons_succ])
                      refine linm_step (i := 11) (d := some 19) (v := .bool true) rfl rfl (by kernel_rfl) (by kernel_rfl) rfl rfl (ordm_value (by kernel_rfl) ?_) ?_
                      · (intro _ w' _ hS; go_simp)
                      (try simp only [Act.put, List.setIfInBounds_toArray, List.set_cons_zero, List.set_cons_succ])
                      refine linm_done (by kernel_rfl) ?_
                      intro w6 hS
                      replace CC := Lib.hid (HS.out _ _ CC.out (gk_bel hS))
                      clear hS HKC
                      go_wp2
                      go_roundw
                      case rel => exact ⟨r + 1, by omega, by go_num, CC⟩
                      case measure => (simp [intOf] <;> omega)
                    · obtain rfl : lr.length = r := by omega
                      go_wp2
                      go_roundw
                      case rel => exact ⟨t + 1, by omega, by go_num, CC⟩
                      case measure => (simp [intOf] <;> omega)
              · obtain rfl : q = t := by omega
                go_wp2
                go_ret
                exact ⟨rfl, HBL.out _ CC.out⟩
      · rw [if_neg hcond] at hg
        obtain ⟨rfl, hb⟩ := hg
        have HCOND := Lib.hid hcond
        have R3 := Lib.hid (R.out.step hb)
        have B3 := Lib.hid (BB.out.trans (hb.mono BB.out.size))
        clear hb hcond hx2 hx3
        have hx3 := R3.out.cell 3 _ rfl
        go_wp2_with fail
        refine (filled_any E q e0 s.fs _ (HF.out.step B3.out)).mono ?_
        intro e w4 hg
        unfold FilledGive at hg
        rw [if_neg HCOND.out] at hg
        obtain ⟨rfl, hb⟩ := hg
        have HBF := Lib.hid (B3.out.trans (hb.mono B3.out.size))
        clear hb
        go_wp2
        go_ret
        exact ⟨rfl, HBF.out⟩
    · have h100i : ¬ ((100 : Int) < (m : Int)) := by omega
      have h100d : decide ((100 : Int) < (m : Int)) = false := decide_eq_false h100i
      have h40i : ((40 : Int) < (n : Int)) := by omega
      unfold suL at R0 B0 HXL ⊢
      go_enter Try.func4, Try.ntmps4
      go_upto_region 1 with fail
      generalize w.alloc (.cells _ 25) = W1 at R0 B0 HXL ⊢
      go_wp2_with fail
      refine (HA.out _).mono ?_
      rintro e w2 ⟨rfl, hb⟩
      have hx2 := (R0.out.step hb).cell 2 _ rfl
      have HBF := Lib.hid (B0.out.trans (hb.mono B0.out.size))
      clear hb
      go_wp2
      go_ret
      exact ⟨rfl, HBF.out⟩
  · have h100i : ((100 : Int) < (m : Int)) := by omega
    unfold suL at R0 B0 HXL ⊢
    go_enter Try.func4, Try.ntmps4
    go_upto_region 1 with fail
    generalize w.alloc (.cells _ 25) = W1 at R0 B0 HXL ⊢
    go_wp2_with fail
    refine (HA.out _).mono ?_
    rintro e w2 ⟨rfl, hb⟩
    have HBF := Lib.hid (B0.out.trans (hb.mono B0.out.size))
    clear hb
    go_wp2
    go_ret
    exact ⟨rfl, HBF.out⟩
end
end Go.Proofs.Ythngbakbiocadaa
