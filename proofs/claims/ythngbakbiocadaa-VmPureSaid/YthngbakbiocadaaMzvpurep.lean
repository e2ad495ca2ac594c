/-
  The walk of VmPure.
-/
import Derived.Test.YthngbakbiocadaaMzvpurepa
import Derived.Test.YthngbakbiocadaaMl
import Derived.Test.YthngbakbiocadaaMk
import Derived.BigQuiet
import Derived.Deep.DeepCutAuto
import Derived.Test.YthngbakbiocadaaMm
import Derived.Test.YthngbakbiocadaaMi
import Derived.Test.YthngbakbiocadaaMw

namespace Go.Proofs.Ythngbakbiocadaa
set_option maxRecDepth 100000
open Go.ChangeShapes Go.WideShapes Go.ChangeAt Go.RowKit Go.Maps

theorem filled_any2 {w w' : World} {n : Nat} {fs : List Fl} {e : Ending} (h : FilledGive w n fs e w') : (∃ a b r, e = .returned (.tuple #[a, b, .bool r])) ∧ Below w.heap.size w w' := by
  unfold FilledGive at h
  split at h
  · obtain ⟨v, u, bs, cs, ba, bb, U, rfl, _, hb, _⟩ := h
    exact ⟨⟨_, _, _, rfl⟩, hb⟩
  · exact ⟨⟨_, _, _, h.1⟩, h.2⟩
section
variable (K : V.Calc) (hi : Int → Bool)
set_option maxHeartbeats 8000000 in
theorem pure_walk (HR0 : RunC K hi) (HA0 : AwakeC) (s : Su) (A : Option Addr) (n c : Nat) (E : Option Addr) (q e0 : Nat) (E2 : Option Addr) (q2 e2 : Nat) (ms : List Fl) (B : Option Addr) (m d : Nat) (xs : List Y.In) (w : World) (hctx : NumsAt w A n s.ctx) (hfs : FlsAt w E q s.fs) (hms : FlsAt w E2 q2 ms) (hins : Yq.InsAt w B m xs) :
    Calls Try.prog 5 #[.agg (suL s A n c E q e0).toArray, .slice E2 q2 e2, .slice B m d] w fun e w' => e = .returned (.bool true) ∧ Below w.heap.size w w' := by
  have HR := Lib.hid HR0
  have HA := Lib.hid HA0
  have HC := Lib.hid hctx
  have HF := Lib.hid hfs
  have HM := Lib.hid hms
  have HI := Lib.hid hins
  have R0 := Lib.hid (rowAt_new w (suL s A n c E q e0) 25)
  have B0 : Hid (Below w.heap.size w (w.alloc (.cells (suL s A n c E q e0).toArray 25))) := Lib.hid ((Below.refl _ _).alloc (Nat.le_refl _) _)
  have HXL : Hid (w.heap.size < (w.alloc (.cells (suL s A n c E q e0).toArray 25)).heap.size) := Lib.hid (by simp)
  clear HR0 HA0 hctx hfs hms hins
  by_cases h100 : m ≤ 100
  · by_cases h40 : n ≤ 40
    · have h100i : ¬ ((100 : Int) < (m : Int)) := by omega
      have h100d : decide ((100 : Int) < (m : Int)) = false := decide_eq_false h100i
      have h40i : ¬ ((40 : Int) < (n : Int)) := by omega
      unfold suL at R0 B0 HXL ⊢
      go_enter Try.func5, Try.ntmps5
      go_upto_region 1 with fail
      generalize w.alloc (.cells _ 25) = W1 at R0 B0 HXL ⊢
      go_wp2_with fail
      refine (HA.out _).mono ?_
      rintro e w2 ⟨rfl, hb⟩
      have R := Lib.hid (R0.out.step hb)
      have BB := Lib.hid (B0.out.trans (hb.mono B0.out.size))
      have HX2 : Hid (w.heap.size < w2.heap.size) := Lib.hid (Nat.lt_of_lt_of_le HXL.out hb.size)
      clear hb R0 B0 HXL
      have hx2 := R.out.cell 2 _ rfl
      go_wp2_with fail
      clear hx2
      go_loopw [8, 32] (fun _ i wr => ∃ k : Nat, k ≤ m ∧ i = .int .i64 (k : Int) ∧ Hid (∀ j x, j < k → xs[j]? = some x → x.op ≠ 64) ∧ Hid (RowAt wr w.heap.size [.int .i64 s.hook, .bool s.fit, .slice A n c, .slice E q e0]) ∧ Hid (Below w.heap.size w wr) ∧ Hid (w.heap.size < wr.heap.size)) (fun _ i _ => m - (intOf i).toNat)
      case atStart => exact ⟨0, Nat.zero_le _, rfl, Lib.hid (fun j x h => by omega), R, BB, HX2⟩
      case round =>
        clear R BB HX2
        obtain ⟨k, hk, rfl, HN, R, BB, HX2⟩ := hrel
        rename World => wo
        by_cases hlt : k < m
        · obtain ⟨b, off, x, hE, hb, hx, hc⟩ := HI.out.get k hlt
          subst hE
          have HC2 : Hid (wo.rangeAt b (off + k * 5) (Yq.inL x)) := Lib.hid (fun j v hv => (BB.out.cell (p := ⟨b, _, none⟩) hb).trans (hc j v hv))
          have HNX := Lib.hid hx
          have hk0 : (0 : Int) ≤ (k : Int) := by omega
          have hk1 : (k : Int) < (m : Int) := by omega
          clear hx hc hb
          by_cases h64 : x.op = 64
          · have HQ := h64
            go_wp2_with (first
              | ((with_reducible refine wpList_load_at Yq.inT HC2.out (Yq.inL_length _) rfl (.tmp 34) rfl ?_ ?_); (exact rfl))
              | ((with_reducible refine wpList_store_newrow Yq.inT (vs := Yq.inL x) (Yq.inL_length _) (Yq.inL_one _) rfl (.tmp 8) (.tmp 35) rfl rfl ?_ ?_ ?_); (exact rfl); (exact rfl); intro W4 hP hb hz; have hrc := hP.cell 0 _ rfl; replace BB := Lib.hid (BB.out.trans (hb.mono BB.out.size)); clear hP hb hz R HX2; generalize wo.heap.size = G at hrc ⊢))
            go_ret
            exact ⟨rfl, BB.out⟩
          · go_wp2_with (first
              | ((with_reducible refine wpList_load_at Yq.inT HC2.out (Yq.inL_length _) rfl (.tmp 34) rfl ?_ ?_); (exact rfl))
              | ((with_reducible refine wpList_store_newrow Yq.inT (vs := Yq.inL x) (Yq.inL_length _) (Yq.inL_one _) rfl (.tmp 8) (.tmp 35) rfl rfl ?_ ?_ ?_); (exact rfl); (exact rfl); intro W4 hP hb hz; have hrc := hP.cell 0 _ rfl; replace R := Lib.hid (RowAt.step (v := .int .i64 s.hook) (vs := [.bool s.fit, .slice A n c, .slice E q e0]) R.out hb); replace BB := Lib.hid (BB.out.trans (hb.mono BB.out.size)); replace HX2 := Lib.hid (Nat.lt_of_lt_of_le HX2.out hb.size); clear hP hb hz; generalize wo.heap.size = G at hrc ⊢))
            go_roundw
            case rel => exact ⟨k + 1, by omega, by go_num, Lib.hid (fun j y hj hy => by
              by_cases e : j < k
              · exact HN.out j y e hy
              · obtain rfl : j = k := by omega
                rw [HNX.out] at hy
                injection hy with hy
                subst hy
                exact h64), R, BB, HX2⟩
            case measure => (simp [intOf] <;> omega)
        · obtain rfl : m = k := by omega
          have HNC : Hid (∀ x ∈ xs, x.op ≠ 64) := Lib.hid (fun x hx => by
            obtain ⟨j, hj, e⟩ := List.getElem_of_mem hx
            exact HN.out j x (by rw [← HI.out.len]; exact hj) (by rw [← e]; exact List.getElem?_eq_getElem hj))
          clear hlt hk HN
          have hx3 := R.out.cell 3 _ rfl
          go_wp2_with fail
          refine (filled_any E q e0 s.fs _ (HF.out.step BB.out)).mono ?_
          intro e w3 hg
          by_cases hcond : q ≤ 4 ∧ s.fs.all goodFl = true
          · unfold FilledGive at hg
            rw [if_pos hcond] at hg
            obtain ⟨v, u, bs, cs, ba, bb, U, rfl, hpr, hb, hba0⟩ := hg
            have HBA : Hid (w.heap.size ≤ ba) := Lib.hid (Nat.le_trans BB.out.size hba0)
            have P := Lib.hid hpr
            have HCOND := Lib.hid hcond
            have R3 := Lib.hid (RowAt.step (v := .int .i64 s.hook) (vs := [.bool s.fit, .slice A n c, .slice E q e0]) R.out hb)
            have B3 := Lib.hid (BB.out.trans (hb.mono BB.out.size))
            have HX3 : Hid (¬ U w.heap.size) := Lib.hid (fun hu => by have := (hpr.lt hu).1; have := HX2.out; omega)
            have HXZ : Hid (w.heap.size < w3.heap.size) := Lib.hid (Nat.lt_of_lt_of_le HX2.out hb.size)
            clear hcond hb hpr hx3
            go_wp2_with fail
            refine (filled_any E2 q2 e2 ms _ (HM.out.step B3.out)).mono ?_
            intro e w4 hg
            by_cases hcond2 : q2 ≤ 4 ∧ ms.all goodFl = true
            · unfold FilledGive at hg
              rw [if_pos hcond2] at hg
              obtain ⟨v2, u2, bs2, cs2, ba2, bb2, U2, rfl, hpr2, hb2, hba2⟩ := hg
              have HCOND2 := Lib.hid hcond2
              have HBA2 : Hid (w.heap.size ≤ ba2) := Lib.hid (Nat.le_trans B3.out.size hba2)
              have P2 := Lib.hid hpr2
              have HX4 : Hid (¬ U2 w.heap.size) := Lib.hid (fun hu => by have := (hpr2.lt hu).1; have := HXZ.out; omega)
              obtain ⟨S, T, hs1, hs2, hs3, hs4, hs5, _, hs7, _⟩ := P.out.step hb2
              have HST := Lib.hid hs1
              have HTT := Lib.hid hs2
              have HDJ := Lib.hid hs3
              have HXS : Hid (¬ S w.heap.size) := Lib.hid (fun hh => HX3.out (hs4 _ hh))
              have HBW := Lib.hid hs7
              have HSU : Hid (∀ y, S y → ¬ U2 y) := Lib.hid (fun y hy hu => by have := (P.out.lt (hs4 y hy)).2; have := (hpr2.lt hu).1; omega)
              have HTU : Hid (∀ y, T y → ¬ U2 y) := Lib.hid (fun y hy hu => by have := (P.out.lt (hs5 y hy)).2; have := (hpr2.lt hu).1; omega)
              have HXR : Hid (RowAt w4 w.heap.size [.int .i64 s.hook, .bool s.fit, .slice A n c, .slice E q e0]) := Lib.hid (RowAt.step (v := .int .i64 s.hook) (vs := [.bool s.fit, .slice A n c, .slice E q e0]) R3.out hb2)
              have BW := Lib.hid (B3.out.trans (hb2.mono B3.out.size))
              have HDO := Lib.hid (dsF_ok HCOND.out.2)
              have HDO2 := Lib.hid (dsF_ok HCOND2.out.2)
              have HD4 : Hid ((dsF s.fs).length ≤ 4) := Lib.hid (by unfold dsF; rw [List.length_map, HF.out.len]; exact HCOND.out.1)
              have HD42 : Hid ((dsF ms).length ≤ 4) := Lib.hid (by unfold dsF; rw [List.length_map, HM.out.len]; exact HCOND2.out.1)
              have HN10 : Hid ((Hk.inF s.hook).toNat ≤ 1000) := Lib.hid (by have := inF_range s.hook; omega)
              obtain ⟨o, ho⟩ : ∃ o, outOf K hi s.hook (ctxF s.hook s.ctx) xs (dsF s.fs) = o := ⟨_, rfl⟩
              obtain ⟨o2, ho2⟩ : ∃ o, outOf K hi s.hook (ctxF s.hook s.ctx) xs (dsF ms) = o := ⟨_, rfl⟩
              have HO := Lib.hid ho
              have HO2 := Lib.hid ho2
              have HOL : Hid (o.out.length ≤ 6) := Lib.hid (by rw [← ho]; exact out_len K hi s.hook s.ctx xs s.fs HCOND.out.2)
              have HPU : Hid (PuF o o2 (dsF s.fs) (dsF ms)) := Lib.hid (by rw [← ho, ← ho2]; exact pure_facts K hi s.hook _ xs _ _ HNC.out)
              have HLW : Hid (w.heap.size ≤ w3.heap.size) := Lib.hid B3.out.size
              clear ho ho2 hs1 hs2 hs3 hs4 hs5 hs7 P R3 B3 R BB hb2 hpr2 hba2 hba0 hcond2
              rename World => wo
              have hx2 := HXR.out.cell 2 _ rfl
              have hx0 := HXR.out.cell 0 _ rfl
              go_upto_region 15 with fail
              clear hx2 hx0
              go_cut [15, 16] (fun p q' wx => ∃ (O : Option Addr) (k c : Nat) (S' : Nat → Prop) (G : Nat), p = .pointer (some ⟨G, 0, none⟩) ∧ q' = .int .i64 o.err ∧ Hid (RnR wo ba v bs S o (Hk.inF s.hook).toNat (ctxF s.hook s.ctx) (.s3 O k c S' G) wx))
              case first =>
                refine Lv.wp_region_linm (RnR wo ba (v) bs S o (Hk.inF s.hook).toNat (ctxF s.hook s.ctx)) (fun _ _ => true) (fun i => i == 7 || i == 9 || i == 13 || i == 14) (fun qi => [.pointer (some ⟨w.heap.size, 0, none⟩), .int .i64 s.hook, v, .pointer (some ⟨w.heap.size, 0, none⟩), .int .i64 s.hook, .pointer (some ⟨w.heap.size, 2, none⟩), .slice A n c, undef, .slice B m d, undef, undef, undef, undef, undef, undef, undef].getD qi undef) (RunK.s0 none) (by kernel_rfl) (by kernel_rfl) (⟨(Below.refl _ _).drew, Gz.none⟩) (fun _ => rfl) ?_
                refine Lv.linm_step (i := 0) (d := some 60) (v := .pointer (some ⟨w.heap.size, 0, none⟩)) rfl rfl (by kernel_rfl) (by kernel_rfl) rfl rfl (ordm_value (by kernel_rfl) ?_) ?_
                · (intro s' w' _ hS; go_simp)
                (try simp only [Act.put, List.setIfInBounds_toArray, List.set_cons_zero, List.set_cons_succ])
                refine Lv.linm_step (i := 3) (d := some 63) (v := .pointer (some ⟨w.heap.size, 0, none⟩)) rfl rfl (by kernel_rfl) (by kernel_rfl) rfl rfl (ordm_value (by kernel_rfl) ?_) ?_
                · (intro s' w' _ hS; go_simp)
                (try simp only [Act.put, List.setIfInBounds_toArray, List.set_cons_zero, List.set_cons_succ])
                refine Lv.linm_step (i := 5) (d := some 65) (v := .pointer (some ⟨w.heap.size, 2, none⟩)) rfl rfl (by kernel_rfl) (by kernel_rfl) rfl rfl (ordm_value (by kernel_rfl) ?_) ?_
                · (intro s' w' _ hS; go_simp)
                (try simp only [Act.put, List.setIfInBounds_toArray, List.set_cons_zero, List.set_cons_succ])
                refine Lv.linm_step (i := 1) (d := some 61) (v := .int .i64 s.hook) rfl rfl (by kernel_rfl) (by kernel_rfl) rfl rfl (ordm_value (by kernel_rfl) ?_) ?_
                · (intro s' w' _ hS; have hrr := RnR.row hS HXR.out HXS.out; have hcc := hrr.cell 0 _ rfl; go_simp)
                (try simp only [Act.put, List.setIfInBounds_toArray, List.set_cons_zero, List.set_cons_succ])
                refine Lv.linm_step (i := 2) (d := some 62) (v := v) rfl rfl (by kernel_rfl) (by kernel_rfl) rfl rfl (ordm_value (by kernel_rfl) ?_) ?_
                · (intro s' w' _ hS; go_simp)
                (try simp only [Act.put, List.setIfInBounds_toArray, List.set_cons_zero, List.set_cons_succ])
                refine Lv.linm_step (i := 4) (d := some 64) (v := .int .i64 s.hook) rfl rfl (by kernel_rfl) (by kernel_rfl) rfl rfl (ordm_value (by kernel_rfl) ?_) ?_
                · (intro s' w' _ hS; have hrr := RnR.row hS HXR.out HXS.out; have hcc := hrr.cell 0 _ rfl; go_simp)
                (try simp only [Act.put, List.setIfInBounds_toArray, List.set_cons_zero, List.set_cons_succ])
                refine Lv.linm_step (i := 6) (d := some 66) (v := .slice A n c) rfl rfl (by kernel_rfl) (by kernel_rfl) rfl rfl (ordm_value (by kernel_rfl) ?_) ?_
                · (intro s' w' _ hS; have hrr := RnR.row hS HXR.out HXS.out; have hcc := hrr.cell 2 _ rfl; go_simp)
                (try simp only [Act.put, List.setIfInBounds_toArray, List.set_cons_zero, List.set_cons_succ])
                refine Lv.linm_step (i := 8) (d := some 68) (v := .slice B m d) rfl rfl (by kernel_rfl) (by kernel_rfl) rfl rfl (ordm_value (by kernel_rfl) ?_) ?_
                · (intro s' w' _ hS; go_simp)
                (try simp only [Act.put, List.setIfInBounds_toArray, List.set_cons_zero, List.set_cons_succ])
                refine Lv.linm_fork2 7 13 (di := some 67) (dj := some 15) (fun _ _ _ => undef) (fun _ _ _ => undef) (fun u s' => ∃ g, u = .slice (some ⟨g, 0, none⟩) (Hk.inF s.hook).toNat (Hk.inF s.hook).toNat ∧ s' = RunK.s1 g none) (fun u s' => ∃ G, u = .pointer (some ⟨G, 0, none⟩) ∧ s' = RunK.s0 (some G)) (by kernel_rfl) (by decide) rfl rfl rfl rfl rfl rfl (lost_no (fun _ _ _ _ => rfl)) (lost_no (fun _ _ _ _ => rfl)) (by kernel_rfl) (fun W hS => rn_ctx rfl rfl (HC.out.step BW.out) (by omega) hS (by go_simp <;> rfl)) (by kernel_rfl) (fun W hS => rn_alloc0 hS (by go_simp; rfl)) ?_ ?_
                · rintro _ s' ⟨g, rfl, rfl⟩
                  (try simp only [Act.put, List.setIfInBounds_toArray, List.set_cons_zero, List.set_cons_succ])
                  refine Lv.linm_fork2 9 13 (di := some 69) (dj := some 15) (fun _ s' qi => postVals o s' qi) (fun _ _ _ => undef) (fun u s' => ∃ O k c S', u = .tuple #[.agg (outL o O k c).toArray, .int .i64 o.err] ∧ s' = RunK.s2 O k c S' none) (fun u s' => ∃ G, u = .pointer (some ⟨G, 0, none⟩) ∧ s' = RunK.s1 g (some G)) (by kernel_rfl) (by decide) rfl rfl rfl rfl rfl rfl (lost_no (fun _ _ _ _ => rfl)) (lost_no (fun _ _ _ _ => rfl)) (by kernel_rfl) (fun W hS => rn_run HR.out HI.out BW.out HBA.out HST.out HBW.out HDO.out HD4.out (by omega) HN10.out HO.out.symm hS (by go_simp <;> rfl)) (by kernel_rfl) (fun W hS => rn_alloc1 hS (by go_simp; rfl)) ?_ ?_
                  · rintro _ s' ⟨O, k, c, S', rfl, rfl⟩
                    (try simp only [Act.put, List.setIfInBounds_toArray, List.set_cons_zero, List.set_cons_succ])
                    refine Lv.linm_step (i := 10) (d := some 59) (v := .tuple #[.agg (outL o O k c).toArray, .int .i64 o.err]) rfl rfl (by kernel_rfl) (by kernel_rfl) rfl rfl (ordm_value (by kernel_rfl) ?_) ?_
                    · (intro s' w' _ hS; go_simp)
                    (try simp only [Act.put, List.setIfInBounds_toArray, List.set_cons_zero, List.set_cons_succ])
                    refine Lv.linm_step (i := 11) (d := some 70) (v := .agg (outL o O k c).toArray) rfl rfl (by kernel_rfl) (by kernel_rfl) rfl rfl (ordm_value (by kernel_rfl) ?_) ?_
                    · (intro s' w' _ hS; go_simp)
                    (try simp only [Act.put, List.setIfInBounds_toArray, List.set_cons_zero, List.set_cons_succ])
                    refine Lv.linm_step (i := 12) (d := some 71) (v := .int .i64 o.err) rfl rfl (by kernel_rfl) (by kernel_rfl) rfl rfl (ordm_value (by kernel_rfl) ?_) ?_
                    · (intro s' w' _ hS; go_simp)
                    (try simp only [Act.put, List.setIfInBounds_toArray, List.set_cons_zero, List.set_cons_succ])
                    refine Lv.linm_sole 13 (di := some 15) (fun _ s' qi => postVals o s' qi) (fun u s' => ∃ G, u = .pointer (some ⟨G, 0, none⟩) ∧ s' = RunK.s2 O k c S' (some G)) (by kernel_rfl) rfl rfl rfl (lost_no (fun _ _ _ _ => rfl)) (by kernel_rfl) (fun W hS => rn_alloc2 hS (by go_simp; rfl)) ?_
                    rintro _ s' ⟨G, rfl, rfl⟩
                    (try simp only [Act.put, List.setIfInBounds_toArray, List.set_cons_zero, List.set_cons_succ])
                    refine Lv.linm_sole 14 (di := none) (fun _ s' qi => postVals o s' qi) (fun u s' => u = undef ∧ s' = RunK.s3 O k c S' G) (by kernel_rfl) rfl rfl rfl (lost_no (fun _ _ _ _ => rfl)) (by kernel_rfl) (fun W hS => rn_store hS (.tmp 15) (.tmp 70) rfl rfl rfl) ?_
                    rintro _ s' ⟨rfl, rfl⟩
                    (try simp only [Act.put, List.setIfInBounds_toArray, List.set_cons_zero, List.set_cons_succ])
                    refine Lv.linm_step (i := 15) (d := some 16) (v := .int .i64 o.err) rfl rfl (by kernel_rfl) (by kernel_rfl) rfl rfl (ordm_value (by kernel_rfl) ?_) ?_
                    · (intro s' w' _ hS; go_simp)
                    (try simp only [Act.put, List.setIfInBounds_toArray, List.set_cons_zero, List.set_cons_succ])
                    refine Lv.linm_done (by kernel_rfl) ?_
                    intro W hS
                    go_wp2_with fail
                    go_meet
                    case rel => exact ⟨O, k, c, S', G, rfl, rfl, Lib.hid hS⟩
                  · rintro _ s' ⟨G, rfl, rfl⟩
                    (try simp only [Act.put, List.setIfInBounds_toArray, List.set_cons_zero, List.set_cons_succ])
                    refine Lv.linm_sole 9 (di := some 69) (fun _ s' qi => postVals o s' qi) (fun u s' => ∃ O k c S', u = .tuple #[.agg (outL o O k c).toArray, .int .i64 o.err] ∧ s' = RunK.s2 O k c S' (some G)) (by kernel_rfl) rfl rfl rfl (lost_no (fun _ _ _ _ => rfl)) (by kernel_rfl) (fun W hS => rn_run HR.out HI.out BW.out HBA.out HST.out HBW.out HDO.out HD4.out (by omega) HN10.out HO.out.symm hS (by go_simp <;> rfl)) ?_
                    rintro _ s' ⟨O, k, c, S', rfl, rfl⟩
                    (try simp only [Act.put, List.setIfInBounds_toArray, List.set_cons_zero, List.set_cons_succ])
                    refine Lv.linm_step (i := 10) (d := some 59) (v := .tuple #[.agg (outL o O k c).toArray, .int .i64 o.err]) rfl rfl (by kernel_rfl) (by kernel_rfl) rfl rfl (ordm_value (by kernel_rfl) ?_) ?_
                    · (intro s' w' _ hS; go_simp)
                    (try simp only [Act.put, List.setIfInBounds_toArray, List.set_cons_zero, List.set_cons_succ])
                    refine Lv.linm_step (i := 11) (d := some 70) (v := .agg (outL o O k c).toArray) rfl rfl (by kernel_rfl) (by kernel_rfl) rfl rfl (ordm_value (by kernel_rfl) ?_) ?_
                    · (intro s' w' _ hS; go_simp)
                    (try simp only [Act.put, List.setIfInBounds_toArray, List.set_cons_zero, List.set_cons_succ])
                    refine Lv.linm_step (i := 12) (d := some 71) (v := .int .i64 o.err) rfl rfl (by kernel_rfl) (by kernel_rfl) rfl rfl (ordm_value (by kernel_rfl) ?_) ?_
                    · (intro s' w' _ hS; go_simp)
                    (try simp only [Act.put, List.setIfInBounds_toArray, List.set_cons_zero, List.set_cons_succ])
                    refine Lv.linm_sole 14 (di := none) (fun _ s' qi => postVals o s' qi) (fun u s' => u = undef ∧ s' = RunK.s3 O k c S' G) (by kernel_rfl) rfl rfl rfl (lost_no (fun _ _ _ _ => rfl)) (by kernel_rfl) (fun W hS => rn_store hS (.tmp 15) (.tmp 70) rfl rfl rfl) ?_
                    rintro _ s' ⟨rfl, rfl⟩
                    (try simp only [Act.put, List.setIfInBounds_toArray, List.set_cons_zero, List.set_cons_succ])
                    refine Lv.linm_step (i := 15) (d := some 16) (v := .int .i64 o.err) rfl rfl (by kernel_rfl) (by kernel_rfl) rfl rfl (ordm_value (by kernel_rfl) ?_) ?_
                    · (intro s' w' _ hS; go_simp)
                    (try simp only [Act.put, List.setIfInBounds_toArray, List.set_cons_zero, List.set_cons_succ])
                    refine Lv.linm_done (by kernel_rfl) ?_
                    intro W hS
                    go_wp2_with fail
                    go_meet
                    case rel => exact ⟨O, k, c, S', G, rfl, rfl, Lib.hid hS⟩
                · rintro _ s' ⟨G, rfl, rfl⟩
                  (try simp only [Act.put, List.setIfInBounds_toArray, List.set_cons_zero, List.set_cons_succ])
                  refine Lv.linm_sole 7 (di := some 67) (fun _ _ _ => undef) (fun u s' => ∃ g, u = .slice (some ⟨g, 0, none⟩) (Hk.inF s.hook).toNat (Hk.inF s.hook).toNat ∧ s' = RunK.s1 g (some G)) (by kernel_rfl) rfl rfl rfl (lost_no (fun _ _ _ _ => rfl)) (by kernel_rfl) (fun W hS => rn_ctx rfl rfl (HC.out.step BW.out) (by omega) hS (by go_simp <;> rfl)) ?_
                  rintro _ s' ⟨g, rfl, rfl⟩
                  (try simp only [Act.put, List.setIfInBounds_toArray, List.set_cons_zero, List.set_cons_succ])
                  refine Lv.linm_sole 9 (di := some 69) (fun _ s' qi => postVals o s' qi) (fun u s' => ∃ O k c S', u = .tuple #[.agg (outL o O k c).toArray, .int .i64 o.err] ∧ s' = RunK.s2 O k c S' (some G)) (by kernel_rfl) rfl rfl rfl (lost_no (fun _ _ _ _ => rfl)) (by kernel_rfl) (fun W hS => rn_run HR.out HI.out BW.out HBA.out HST.out HBW.out HDO.out HD4.out (by omega) HN10.out HO.out.symm hS (by go_simp <;> rfl)) ?_
                  rintro _ s' ⟨O, k, c, S', rfl, rfl⟩
                  (try simp only [Act.put, List.setIfInBounds_toArray, List.set_cons_zero, List.set_cons_succ])
                  refine Lv.linm_step (i := 10) (d := some 59) (v := .tuple #[.agg (outL o O k c).toArray, .int .i64 o.err]) rfl rfl (by kernel_rfl) (by kernel_rfl) rfl rfl (ordm_value (by kernel_rfl) ?_) ?_
                  · (intro s' w' _ hS; go_simp)
                  (try simp only [Act.put, List.setIfInBounds_toArray, List.set_cons_zero, List.set_cons_succ])
                  refine Lv.linm_step (i := 11) (d := some 70) (v := .agg (outL o O k c).toArray) rfl rfl (by kernel_rfl) (by kernel_rfl) rfl rfl (ordm_value (by kernel_rfl) ?_) ?_
                  · (intro s' w' _ hS; go_simp)
                  (try simp only [Act.put, List.setIfInBounds_toArray, List.set_cons_zero, List.set_cons_succ])
                  refine Lv.linm_step (i := 12) (d := some 71) (v := .int .i64 o.err) rfl rfl (by kernel_rfl) (by kernel_rfl) rfl rfl (ordm_value (by kernel_rfl) ?_) ?_
                  · (intro s' w' _ hS; go_simp)
                  (try simp only [Act.put, List.setIfInBounds_toArray, List.set_cons_zero, List.set_cons_succ])
                  refine Lv.linm_sole 14 (di := none) (fun _ s' qi => postVals o s' qi) (fun u s' => u = undef ∧ s' = RunK.s3 O k c S' G) (by kernel_rfl) rfl rfl rfl (lost_no (fun _ _ _ _ => rfl)) (by kernel_rfl) (fun W hS => rn_store hS (.tmp 15) (.tmp 70) rfl rfl rfl) ?_
                  rintro _ s' ⟨rfl, rfl⟩
                  (try simp only [Act.put, List.setIfInBounds_toArray, List.set_cons_zero, List.set_cons_succ])
                  refine Lv.linm_step (i := 15) (d := some 16) (v := .int .i64 o.err) rfl rfl (by kernel_rfl) (by kernel_rfl) rfl rfl (ordm_value (by kernel_rfl) ?_) ?_
                  · (intro s' w' _ hS; go_simp)
                  (try simp only [Act.put, List.setIfInBounds_toArray, List.set_cons_zero, List.set_cons_succ])
                  refine Lv.linm_done (by kernel_rfl) ?_
                  intro W hS
                  go_wp2_with fail
                  go_meet
                  case rel => exact ⟨O, k, c, S', G, rfl, rfl, Lib.hid hS⟩
              case rest =>
                obtain ⟨O, k, c', S', G, rfl, rfl, HK⟩ := hcut
                rename World => wx
                have M : Hid (MidA w ba ba2 bb2 w3.heap.size v v2 u2 bs bs2 cs2 S' U2 o O k c' G (dsF ms) w.heap.size (.int .i64 s.hook) [.bool s.fit, .slice A n c, .slice E q e0] wx) :=
                  Lib.hid (mid_of HK.out P2.out HXR.out BW.out HSU.out (fun y hy => Nat.le_trans HBA.out (HST.out.ge hy)) HXS.out HX4.out HLW.out)
                obtain ⟨hk1, _⟩ := HK.out
                have HT1 : Hid (StAt sR bb u cs T (dsF s.fs) wx) := Lib.hid (HTT.out.keep hk1.but HDJ.out)
                clear HK P2 HXR BW HSU HST HBW HBA HXS HX3 hk1 HTT HDJ
                obtain ⟨S2, T2, hs1, hs2, hs3, hs4, _, _, hs7, _⟩ := M.out.p
                have HST2 := Lib.hid hs1
                have HTT2 := Lib.hid hs2
                have HDJ2 := Lib.hid hs3
                have HSU2 := Lib.hid hs4
                have HBW2 := Lib.hid hs7
                have HXR2 := Lib.hid M.out.x
                have HXS2 : Hid (¬ S2 w.heap.size) := Lib.hid (fun hh => M.out.offX (hs4 _ hh))
                have BX := Lib.hid M.out.bel
                clear hs1 hs2 hs3 hs4 hs7
                go_upto_region 16 with fail
                go_cut [17, 18] (fun p q' wy => ∃ (O : Option Addr) (k c : Nat) (S' : Nat → Prop) (G : Nat), p = .pointer (some ⟨G, 0, none⟩) ∧ q' = .int .i64 o2.err ∧ Hid (RnR wx ba2 v2 bs2 S2 o2 (Hk.inF s.hook).toNat (ctxF s.hook s.ctx) (.s3 O k c S' G) wy))
                case first =>
                  refine Lv.wp_region_linm (RnR wx ba2 (v2) bs2 S2 o2 (Hk.inF s.hook).toNat (ctxF s.hook s.ctx)) (fun _ _ => true) (fun i => i == 7 || i == 9 || i == 13 || i == 14) (fun qi => [.pointer (some ⟨w.heap.size, 0, none⟩), .int .i64 s.hook, v2, .pointer (some ⟨w.heap.size, 0, none⟩), .int .i64 s.hook, .pointer (some ⟨w.heap.size, 2, none⟩), .slice A n c, undef, .slice B m d, undef, undef, undef, undef, undef, undef, undef].getD qi undef) (RunK.s0 none) (by kernel_rfl) (by kernel_rfl) (⟨(Below.refl _ _).drew, Gz.none⟩) (fun _ => rfl) ?_
                  refine Lv.linm_step (i := 0) (d := some 73) (v := .pointer (some ⟨w.heap.size, 0, none⟩)) rfl rfl (by kernel_rfl) (by kernel_rfl) rfl rfl (ordm_value (by kernel_rfl) ?_) ?_
                  · (intro s' w' _ hS; go_simp)
                  (try simp only [Act.put, List.setIfInBounds_toArray, List.set_cons_zero, List.set_cons_succ])
                  refine Lv.linm_step (i := 3) (d := some 76) (v := .pointer (some ⟨w.heap.size, 0, none⟩)) rfl rfl (by kernel_rfl) (by kernel_rfl) rfl rfl (ordm_value (by kernel_rfl) ?_) ?_
                  · (intro s' w' _ hS; go_simp)
                  (try simp only [Act.put, List.setIfInBounds_toArray, List.set_cons_zero, List.set_cons_succ])
                  refine Lv.linm_step (i := 5) (d := some 78) (v := .pointer (some ⟨w.heap.size, 2, none⟩)) rfl rfl (by kernel_rfl) (by kernel_rfl) rfl rfl (ordm_value (by kernel_rfl) ?_) ?_
                  · (intro s' w' _ hS; go_simp)
                  (try simp only [Act.put, List.setIfInBounds_toArray, List.set_cons_zero, List.set_cons_succ])
                  refine Lv.linm_step (i := 1) (d := some 74) (v := .int .i64 s.hook) rfl rfl (by kernel_rfl) (by kernel_rfl) rfl rfl (ordm_value (by kernel_rfl) ?_) ?_
                  · (intro s' w' _ hS; have hrr := RnR.row hS HXR2.out HXS2.out; have hcc := hrr.cell 0 _ rfl; go_simp)
                  (try simp only [Act.put, List.setIfInBounds_toArray, List.set_cons_zero, List.set_cons_succ])
                  refine Lv.linm_step (i := 2) (d := some 75) (v := v2) rfl rfl (by kernel_rfl) (by kernel_rfl) rfl rfl (ordm_value (by kernel_rfl) ?_) ?_
                  · (intro s' w' _ hS; go_simp)
                  (try simp only [Act.put, List.setIfInBounds_toArray, List.set_cons_zero, List.set_cons_succ])
                  refine Lv.linm_step (i := 4) (d := some 77) (v := .int .i64 s.hook) rfl rfl (by kernel_rfl) (by kernel_rfl) rfl rfl (ordm_value (by kernel_rfl) ?_) ?_
                  · (intro s' w' _ hS; have hrr := RnR.row hS HXR2.out HXS2.out; have hcc := hrr.cell 0 _ rfl; go_simp)
                  (try simp only [Act.put, List.setIfInBounds_toArray, List.set_cons_zero, List.set_cons_succ])
                  refine Lv.linm_step (i := 6) (d := some 79) (v := .slice A n c) rfl rfl (by kernel_rfl) (by kernel_rfl) rfl rfl (ordm_value (by kernel_rfl) ?_) ?_
                  · (intro s' w' _ hS; have hrr := RnR.row hS HXR2.out HXS2.out; have hcc := hrr.cell 2 _ rfl; go_simp)
                  (try simp only [Act.put, List.setIfInBounds_toArray, List.set_cons_zero, List.set_cons_succ])
                  refine Lv.linm_step (i := 8) (d := some 81) (v := .slice B m d) rfl rfl (by kernel_rfl) (by kernel_rfl) rfl rfl (ordm_value (by kernel_rfl) ?_) ?_
                  · (intro s' w' _ hS; go_simp)
                  (try simp only [Act.put, List.setIfInBounds_toArray, List.set_cons_zero, List.set_cons_succ])
                  refine Lv.linm_fork2 7 13 (di := some 80) (dj := some 17) (fun _ _ _ => undef) (fun _ _ _ => undef) (fun u s' => ∃ g, u = .slice (some ⟨g, 0, none⟩) (Hk.inF s.hook).toNat (Hk.inF s.hook).toNat ∧ s' = RunK.s1 g none) (fun u s' => ∃ G, u = .pointer (some ⟨G, 0, none⟩) ∧ s' = RunK.s0 (some G)) (by kernel_rfl) (by decide) rfl rfl rfl rfl rfl rfl (lost_no (fun _ _ _ _ => rfl)) (lost_no (fun _ _ _ _ => rfl)) (by kernel_rfl) (fun W hS => rn_ctx rfl rfl (HC.out.step BX.out) (by omega) hS (by go_simp <;> rfl)) (by kernel_rfl) (fun W hS => rn_alloc0 hS (by go_simp; rfl)) ?_ ?_
                  · rintro _ s' ⟨g, rfl, rfl⟩
                    (try simp only [Act.put, List.setIfInBounds_toArray, List.set_cons_zero, List.set_cons_succ])
                    refine Lv.linm_fork2 9 13 (di := some 82) (dj := some 17) (fun _ s' qi => postVals o2 s' qi) (fun _ _ _ => undef) (fun u s' => ∃ O k c S', u = .tuple #[.agg (outL o2 O k c).toArray, .int .i64 o2.err] ∧ s' = RunK.s2 O k c S' none) (fun u s' => ∃ G, u = .pointer (some ⟨G, 0, none⟩) ∧ s' = RunK.s1 g (some G)) (by kernel_rfl) (by decide) rfl rfl rfl rfl rfl rfl (lost_no (fun _ _ _ _ => rfl)) (lost_no (fun _ _ _ _ => rfl)) (by kernel_rfl) (fun W hS => rn_run HR.out HI.out BX.out HBA2.out HST2.out HBW2.out HDO2.out HD42.out (by omega) HN10.out HO2.out.symm hS (by go_simp <;> rfl)) (by kernel_rfl) (fun W hS => rn_alloc1 hS (by go_simp; rfl)) ?_ ?_
                    · rintro _ s' ⟨O, k, c, S', rfl, rfl⟩
                      (try simp only [Act.put, List.setIfInBounds_toArray, List.set_cons_zero, List.set_cons_succ])
                      refine Lv.linm_step (i := 10) (d := some 72) (v := .tuple #[.agg (outL o2 O k c).toArray, .int .i64 o2.err]) rfl rfl (by kernel_rfl) (by kernel_rfl) rfl rfl (ordm_value (by kernel_rfl) ?_) ?_
                      · (intro s' w' _ hS; go_simp)
                      (try simp only [Act.put, List.setIfInBounds_toArray, List.set_cons_zero, List.set_cons_succ])
                      refine Lv.linm_step (i := 11) (d := some 83) (v := .agg (outL o2 O k c).toArray) rfl rfl (by kernel_rfl) (by kernel_rfl) rfl rfl (ordm_value (by kernel_rfl) ?_) ?_
                      · (intro s' w' _ hS; go_simp)
                      (try simp only [Act.put, List.setIfInBounds_toArray, List.set_cons_zero, List.set_cons_succ])
                      refine Lv.linm_step (i := 12) (d := some 84) (v := .int .i64 o2.err) rfl rfl (by kernel_rfl) (by kernel_rfl) rfl rfl (ordm_value (by kernel_rfl) ?_) ?_
                      · (intro s' w' _ hS; go_simp)
                      (try simp only [Act.put, List.setIfInBounds_toArray, List.set_cons_zero, List.set_cons_succ])
                      refine Lv.linm_sole 13 (di := some 17) (fun _ s' qi => postVals o2 s' qi) (fun u s' => ∃ G, u = .pointer (some ⟨G, 0, none⟩) ∧ s' = RunK.s2 O k c S' (some G)) (by kernel_rfl) rfl rfl rfl (lost_no (fun _ _ _ _ => rfl)) (by kernel_rfl) (fun W hS => rn_alloc2 hS (by go_simp; rfl)) ?_
                      rintro _ s' ⟨G, rfl, rfl⟩
                      (try simp only [Act.put, List.setIfInBounds_toArray, List.set_cons_zero, List.set_cons_succ])
                      refine Lv.linm_sole 14 (di := none) (fun _ s' qi => postVals o2 s' qi) (fun u s' => u = undef ∧ s' = RunK.s3 O k c S' G) (by kernel_rfl) rfl rfl rfl (lost_no (fun _ _ _ _ => rfl)) (by kernel_rfl) (fun W hS => rn_store hS (.tmp 17) (.tmp 83) rfl rfl rfl) ?_
                      rintro _ s' ⟨rfl, rfl⟩
                      (try simp only [Act.put, List.setIfInBounds_toArray, List.set_cons_zero, List.set_cons_succ])
                      refine Lv.linm_step (i := 15) (d := some 18) (v := .int .i64 o2.err) rfl rfl (by kernel_rfl) (by kernel_rfl) rfl rfl (ordm_value (by kernel_rfl) ?_) ?_
                      · (intro s' w' _ hS; go_simp)
                      (try simp only [Act.put, List.setIfInBounds_toArray, List.set_cons_zero, List.set_cons_succ])
                      refine Lv.linm_done (by kernel_rfl) ?_
                      intro W hS
                      go_wp2_with fail
                      go_meet
                      case rel => exact ⟨O, k, c, S', G, rfl, rfl, Lib.hid hS⟩
                    · rintro _ s' ⟨G, rfl, rfl⟩
                      (try simp only [Act.put, List.setIfInBounds_toArray, List.set_cons_zero, List.set_cons_succ])
                      refine Lv.linm_sole 9 (di := some 82) (fun _ s' qi => postVals o2 s' qi) (fun u s' => ∃ O k c S', u = .tuple #[.agg (outL o2 O k c).toArray, .int .i64 o2.err] ∧ s' = RunK.s2 O k c S' (some G)) (by kernel_rfl) rfl rfl rfl (lost_no (fun _ _ _ _ => rfl)) (by kernel_rfl) (fun W hS => rn_run HR.out HI.out BX.out HBA2.out HST2.out HBW2.out HDO2.out HD42.out (by omega) HN10.out HO2.out.symm hS (by go_simp <;> rfl)) ?_
                      rintro _ s' ⟨O, k, c, S', rfl, rfl⟩
                      (try simp only [Act.put, List.setIfInBounds_toArray, List.set_cons_zero, List.set_cons_succ])
                      refine Lv.linm_step (i := 10) (d := some 72) (v := .tuple #[.agg (outL o2 O k c).toArray, .int .i64 o2.err]) rfl rfl (by kernel_rfl) (by kernel_rfl) rfl rfl (ordm_value (by kernel_rfl) ?_) ?_
                      · (intro s' w' _ hS; go_simp)
                      (try simp only [Act.put, List.setIfInBounds_toArray, List.set_cons_zero, List.set_cons_succ])
                      refine Lv.linm_step (i := 11) (d := some 83) (v := .agg (outL o2 O k c).toArray) rfl rfl (by kernel_rfl) (by kernel_rfl) rfl rfl (ordm_value (by kernel_rfl) ?_) ?_
                      · (intro s' w' _ hS; go_simp)
                      (try simp only [Act.put, List.setIfInBounds_toArray, List.set_cons_zero, List.set_cons_succ])
                      refine Lv.linm_step (i := 12) (d := some 84) (v := .int .i64 o2.err) rfl rfl (by kernel_rfl) (by kernel_rfl) rfl rfl (ordm_value (by kernel_rfl) ?_) ?_
                      · (intro s' w' _ hS; go_simp)
                      (try simp only [Act.put, List.setIfInBounds_toArray, List.set_cons_zero, List.set_cons_succ])
                      refine Lv.linm_sole 14 (di := none) (fun _ s' qi => postVals o2 s' qi) (fun u s' => u = undef ∧ s' = RunK.s3 O k c S' G) (by kernel_rfl) rfl rfl rfl (lost_no (fun _ _ _ _ => rfl)) (by kernel_rfl) (fun W hS => rn_store hS (.tmp 17) (.tmp 83) rfl rfl rfl) ?_
                      rintro _ s' ⟨rfl, rfl⟩
                      (try simp only [Act.put, List.setIfInBounds_toArray, List.set_cons_zero, List.set_cons_succ])
                      refine Lv.linm_step (i := 15) (d := some 18) (v := .int .i64 o2.err) rfl rfl (by kernel_rfl) (by kernel_rfl) rfl rfl (ordm_value (by kernel_rfl) ?_) ?_
                      · (intro s' w' _ hS; go_simp)
                      (try simp only [Act.put, List.setIfInBounds_toArray, List.set_cons_zero, List.set_cons_succ])
                      refine Lv.linm_done (by kernel_rfl) ?_
                      intro W hS
                      go_wp2_with fail
                      go_meet
                      case rel => exact ⟨O, k, c, S', G, rfl, rfl, Lib.hid hS⟩
                  · rintro _ s' ⟨G, rfl, rfl⟩
                    (try simp only [Act.put, List.setIfInBounds_toArray, List.set_cons_zero, List.set_cons_succ])
                    refine Lv.linm_sole 7 (di := some 80) (fun _ _ _ => undef) (fun u s' => ∃ g, u = .slice (some ⟨g, 0, none⟩) (Hk.inF s.hook).toNat (Hk.inF s.hook).toNat ∧ s' = RunK.s1 g (some G)) (by kernel_rfl) rfl rfl rfl (lost_no (fun _ _ _ _ => rfl)) (by kernel_rfl) (fun W hS => rn_ctx rfl rfl (HC.out.step BX.out) (by omega) hS (by go_simp <;> rfl)) ?_
                    rintro _ s' ⟨g, rfl, rfl⟩
                    (try simp only [Act.put, List.setIfInBounds_toArray, List.set_cons_zero, List.set_cons_succ])
                    refine Lv.linm_sole 9 (di := some 82) (fun _ s' qi => postVals o2 s' qi) (fun u s' => ∃ O k c S', u = .tuple #[.agg (outL o2 O k c).toArray, .int .i64 o2.err] ∧ s' = RunK.s2 O k c S' (some G)) (by kernel_rfl) rfl rfl rfl (lost_no (fun _ _ _ _ => rfl)) (by kernel_rfl) (fun W hS => rn_run HR.out HI.out BX.out HBA2.out HST2.out HBW2.out HDO2.out HD42.out (by omega) HN10.out HO2.out.symm hS (by go_simp <;> rfl)) ?_
                    rintro _ s' ⟨O, k, c, S', rfl, rfl⟩
                    (try simp only [Act.put, List.setIfInBounds_toArray, List.set_cons_zero, List.set_cons_succ])
                    refine Lv.linm_step (i := 10) (d := some 72) (v := .tuple #[.agg (outL o2 O k c).toArray, .int .i64 o2.err]) rfl rfl (by kernel_rfl) (by kernel_rfl) rfl rfl (ordm_value (by kernel_rfl) ?_) ?_
                    · (intro s' w' _ hS; go_simp)
                    (try simp only [Act.put, List.setIfInBounds_toArray, List.set_cons_zero, List.set_cons_succ])
                    refine Lv.linm_step (i := 11) (d := some 83) (v := .agg (outL o2 O k c).toArray) rfl rfl (by kernel_rfl) (by kernel_rfl) rfl rfl (ordm_value (by kernel_rfl) ?_) ?_
                    · (intro s' w' _ hS; go_simp)
                    (try simp only [Act.put, List.setIfInBounds_toArray, List.set_cons_zero, List.set_cons_succ])
                    refine Lv.linm_step (i := 12) (d := some 84) (v := .int .i64 o2.err) rfl rfl (by kernel_rfl) (by kernel_rfl) rfl rfl (ordm_value (by kernel_rfl) ?_) ?_
                    · (intro s' w' _ hS; go_simp)
                    (try simp only [Act.put, List.setIfInBounds_toArray, List.set_cons_zero, List.set_cons_succ])
                    refine Lv.linm_sole 14 (di := none) (fun _ s' qi => postVals o2 s' qi) (fun u s' => u = undef ∧ s' = RunK.s3 O k c S' G) (by kernel_rfl) rfl rfl rfl (lost_no (fun _ _ _ _ => rfl)) (by kernel_rfl) (fun W hS => rn_store hS (.tmp 17) (.tmp 83) rfl rfl rfl) ?_
                    rintro _ s' ⟨rfl, rfl⟩
                    (try simp only [Act.put, List.setIfInBounds_toArray, List.set_cons_zero, List.set_cons_succ])
                    refine Lv.linm_step (i := 15) (d := some 18) (v := .int .i64 o2.err) rfl rfl (by kernel_rfl) (by kernel_rfl) rfl rfl (ordm_value (by kernel_rfl) ?_) ?_
                    · (intro s' w' _ hS; go_simp)
                    (try simp only [Act.put, List.setIfInBounds_toArray, List.set_cons_zero, List.set_cons_succ])
                    refine Lv.linm_done (by kernel_rfl) ?_
                    intro W hS
                    go_wp2_with fail
                    go_meet
                    case rel => exact ⟨O, k, c, S', G, rfl, rfl, Lib.hid hS⟩
                case rest =>
                  obtain ⟨O2, k2, c2, S2', G2, rfl, hq', HK⟩ := hcut
                  rename World => wy
                  rw [HPU.out.err] at hq'
                  subst hq'
                  obtain ⟨C, hC0, hC1, hC2, hC3, hC4, hC5, hC6, hC7, hC8, hC9, hC10⟩ := class2_of M.out HSU2.out HTT2.out HDJ2.out HT1.out HTU.out HK.out
                  have CC := Lib.hid hC0
                  have HBL := Lib.hid hC10
                  have HS1 : Hid (∀ W, C W → Calls Try.prog 22 #[v, u] W fun e w' => e = .returned (.bool true) ∧ C w') := Lib.hid (fun W hC => (same19_any ba bb v u bs cs S' T (dsF s.fs) W (by rw [← HPU.out.ds1]; exact hC2 W hC) (hC3 W hC) HDO.out HD4.out).mono (fun e w' ⟨he, hb⟩ => ⟨he, hC1 _ _ hC hb⟩))
                  have HS2 : Hid (∀ W, C W → Calls Try.prog 22 #[v2, u2] W fun e w' => e = .returned (.bool true) ∧ C w') := Lib.hid (fun W hC => (same19_any ba2 bb2 v2 u2 bs2 cs2 S2' T2 (dsF ms) W (by rw [← HPU.out.ds2]; exact hC4 W hC) (hC5 W hC) HDO2.out HD42.out).mono (fun e w' ⟨he, hb⟩ => ⟨he, hC1 _ _ hC hb⟩))
                  have HK1 : Hid (k ≤ 1000) := Lib.hid (by have h1 := (hC6 _ hC0).len; have h2 := HOL.out; omega)
                  have HK2 : Hid (k2 ≤ 1000) := Lib.hid (by have h1 := (hC7 _ hC0).len; rw [HPU.out.out] at h1; have h2 := HOL.out; omega)
                  have HS7 : Hid (∀ W, C W → Calls Try.prog 14 #[.slice O k c', .slice O2 k2 c2] W fun e w' => e = .returned (.bool true) ∧ C w') := Lib.hid (fun W hC => (rsame7_any O O2 k k2 c' c2 o.out o2.out W (hC6 W hC) (hC7 W hC) HK1.out HK2.out).mono (fun e w' ⟨he, hb⟩ => ⟨by rw [he, HPU.out.out]; simp, hC1 _ _ hC hb⟩))
                  have r1 := hC8 _ hC0
                  have r2 := hC9 _ hC0
                  have p0 : wy.cell? ⟨G, 0, none⟩ = some (.int .i64 o.how) := r1.cell 0 _ rfl
                  have p1 : wy.cell? ⟨G, 1, none⟩ = some (.int .i64 o.why) := r1.cell 1 _ rfl
                  have p2 : wy.cell? ⟨G, 2, none⟩ = some (.int .i64 o.verdict) := r1.cell 2 _ rfl
                  have p3 : wy.cell? ⟨G, 3, none⟩ = some (.int .i64 o.steps) := r1.cell 3 _ rfl
                  have p4 : wy.cell? ⟨G, 4, none⟩ = some (.slice O k c') := r1.cell 4 _ rfl
                  have q0 : wy.cell? ⟨G2, 0, none⟩ = some (.int .i64 o.how) := by rw [← HPU.out.how]; exact r2.cell 0 _ rfl
                  have q1 : wy.cell? ⟨G2, 1, none⟩ = some (.int .i64 o.why) := by rw [← HPU.out.why]; exact r2.cell 1 _ rfl
                  have q2 : wy.cell? ⟨G2, 2, none⟩ = some (.int .i64 o.verdict) := by rw [← HPU.out.verdict]; exact r2.cell 2 _ rfl
                  have q3 : wy.cell? ⟨G2, 3, none⟩ = some (.int .i64 o.steps) := by rw [← HPU.out.steps]; exact r2.cell 3 _ rfl
                  have q4 : wy.cell? ⟨G2, 4, none⟩ = some (.slice O2 k2 c2) := r2.cell 4 _ rfl
                  clear r1 r2 HK1 HK2 hC0 hC1 hC2 hC3 hC4 hC5 hC6 hC7 hC8 hC9 hC10 HK M HST2 HTT2 HDJ2 HSU2 HBW2 HXR2 HXS2 BX HBA2 HX4 HLW HDO HD4 HDO2 HD42 HN10 HO HO2 HXZ HX2 HI HC HR HA HTU HT1 HPU HOL
                  go_wp2_with (first
                    | (go_at_call 14; (with_reducible refine (HS7.out _ CC.out).mono ?_); rintro e w5 ⟨rfl, hC⟩; replace CC := Lib.hid hC; clear hC)
                    | (go_at_call 22; (first | (with_reducible refine (HS1.out _ CC.out).mono ?_) | (with_reducible refine (HS2.out _ CC.out).mono ?_)); rintro e w5 ⟨rfl, hC⟩; replace CC := Lib.hid hC; clear hC))
                  go_ret
                  exact ⟨rfl, HBL.out _ CC.out⟩
            · unfold FilledGive at hg
              rw [if_neg hcond2] at hg
              obtain ⟨rfl, hb⟩ := hg
              have HBF := Lib.hid (B3.out.trans (hb.mono B3.out.size))
              clear hb
              go_wp2
              go_ret
              exact ⟨rfl, HBF.out⟩
          · unfold FilledGive at hg
            rw [if_neg hcond] at hg
            obtain ⟨rfl, hb⟩ := hg
            have B3 := Lib.hid (BB.out.trans (hb.mono BB.out.size))
            clear hb hcond hx3
            go_wp2_with fail
            refine (filled_any E2 q2 e2 ms _ (HM.out.step B3.out)).mono ?_
            intro e w4 hg
            obtain ⟨⟨a1, a2, a3, rfl⟩, hb⟩ := filled_any2 hg
            have HBF := Lib.hid (B3.out.trans (hb.mono B3.out.size))
            clear hb hg
            go_wp2
            go_ret
            exact ⟨rfl, HBF.out⟩
    · have h100i : ¬ ((100 : Int) < (m : Int)) := by omega
      have h100d : decide ((100 : Int) < (m : Int)) = false := decide_eq_false h100i
      have h40i : ((40 : Int) < (n : Int)) := by omega
      unfold suL at R0 B0 HXL ⊢
      go_enter Try.func5, Try.ntmps5
      go_upto_region 1 with fail
      generalize w.alloc (.cells _ 25) = W1 at R0 B0 HXL ⊢
      go_wp2_with fail
      refine (HA.out _).mono ?_
      rintro e w2 ⟨rfl, hb⟩
      have hx2 := (R0.out.step hb).cell 2 _ rfl
      have HBF := Lib.hid (B0.out.trans (hb.mono B0.out.size))
      clear hb
      go_wp2
      go_ret
      exact ⟨rfl, HBF.out⟩
  · have h100i : ((100 : Int) < (m : Int)) := by omega
    unfold suL at R0 B0 HXL ⊢
    go_enter Try.func5, Try.ntmps5
    go_upto_region 1 with fail
    generalize w.alloc (.cells _ 25) = W1 at R0 B0 HXL ⊢
    go_wp2_with fail
    refine (HA.out _).mono ?_
    rintro e w2 ⟨rfl, hb⟩
    have HBF := Lib.hid (B0.out.trans (hb.mono B0.out.size))
    clear hb
    go_wp2
    go_ret
    exact ⟨rfl, HBF.out⟩
end
end Go.Proofs.Ythngbakbiocadaa

/-
  Proved: VmPure returns true for all setups, fills and instructions: a run that neither calls a helper nor stores into a value ends the same whatever the maps are, and leaves them.
  Conditions: none beside the statement's own.
-/
namespace Go.Proofs.Ythngbakbiocadaa.vmPure
open Go.ChangeShapes Go.WideShapes Go.ChangeAt Go.RowKit
open Go.ChangeMaps (open_string)

set_option maxRecDepth 100000 in
theorem lifted (os : Os) (started : os.Started) (H : Type) (enc : TypeId × Value → H) :
    ReturnsInHanded {} Try.checked os 5 .any (Rows.vmPureSpec.pre6 enc Try.prog Try.f5 Rows.vmPureRow.domain false) (Rows.vmPureSpec.post enc Try.prog Try.f5 false true false false) := by
  refine returnsInHanded_of_change (C := Try.checked) own started (by kernel_rfl) Try.func5
    (ChangeSpec.witness6 (enc := enc) (C := Try.checked) false ⟨#[], #[.agg #[.int .i64 0, .bool false, .slice none 0 0, .slice none 0 0], .slice none 0 0, .slice none 0 0], []⟩ 8 (by kernel_rfl) (by kernel_rfl) (by kernel_rfl) (by kernel_rfl)) ?_
  intro W base args ds gs before hval0 hW hcnd _
  have hval : ∀ (j : Nat) t v, Try.f5.params[j]? = some t → args[j]? = some v → Value.okWide Try.prog W .any base t v := hval0
  have hW' := hW
  obtain ⟨p, q, hA0, hV, rfl, hfz, hnd⟩ := hW
  have hA : DataW.TrodAll enc Try.prog W 0 (fun _ => true) true Try.f5.params.toList args.toList ds p := hA0
  rw [Try.params5] at hA hval
  obtain ⟨v0, vs0, d0, ds0, p0, q0, hargs, rfl, rfl, h0, r0⟩ := trodAll_cons hA
  obtain ⟨v1, vs1, d1, ds1, p1, q1, rfl, rfl, rfl, h1, r1⟩ := trodAll_cons r0
  obtain ⟨v2, vs2, d2, ds2, p2, q2, rfl, rfl, rfl, h2, r2⟩ := trodAll_cons r1
  obtain ⟨rfl, rfl, rfl⟩ := trodAll_nil r2
  obtain rfl : args = #[v0, v1, v2] := by cases args; simp_all
  obtain ⟨rfl, rfl⟩ := trodVars_none hV
  have k0 := h0
  have lt0 : ∀ x ∈ p0, x.block < W.heap.size := by obtain ⟨m, hm⟩ := k0; exact DataW.trod_lt m _ _ _ hm
  have k1 := h1
  have lt1 : ∀ x ∈ p1, x.block < W.heap.size := by obtain ⟨m, hm⟩ := k1; exact DataW.trod_lt m _ _ _ hm
  have k2 := h2
  have lt2 : ∀ x ∈ p2, x.block < W.heap.size := by obtain ⟨m, hm⟩ := k2; exact DataW.trod_lt m _ _ _ hm
  obtain ⟨s, hsu⟩ := open_setup (hval 0 25 v0 rfl rfl) h0
  obtain ⟨A, n, c, E, q, e0, rfl, _, hctx, _, hfs⟩ := hsu.is
  obtain ⟨A1, n1, c1, fs1, rfl, hc1, hi1⟩ := open_fls_arg (hval 1 23 v1 rfl rfl) h1
  obtain ⟨A2, n2, c2, xs2, rfl, hc2, hi2⟩ := Yq.open_ins (hval 2 26 v2 rfl rfl) h2
  clear hA0 hval0
  refine (pure_walk runK runHi run_c (awake_c runK runHi run_c) s A n c E q e0 A1 n1 c1 fs1 A2 n2 c2 xs2 W hctx hfs hi1 hi2).mono fun e W' ⟨he, bel⟩ => ?_
  subst he
  exact ⟨_, rfl, _, _, _, [], _, [], hW', trodAll_mk1 (shut_bool Try.underlying4 _), (trodAll_cons_mk (Below.trod laidOut (by kernel_rfl) (of_decide_eq_true (by kernel_rfl)) k0 bel lt0) (trodAll_cons_mk (Below.trod laidOut (by kernel_rfl) (of_decide_eq_true (by kernel_rfl)) k1 bel lt1) (trodAll_cons_mk (Below.trod laidOut (by kernel_rfl) (of_decide_eq_true (by kernel_rfl)) k2 bel lt2) trodAll_mk0))), rfl, bel.frame _, fun h => by cases h⟩
theorem over : Rows.vmPureRow.holds Try.pinned (OpenSpec.ofChange Rows.vmPureSpec) :=
  OpenClaim.holds_of_wide 5 Try.f5 rfl rfl rfl rfl rfl rfl rfl ⟨rfl, rfl, rfl, rfl, rfl⟩ rfl rfl rfl rfl rfl (by kernel_rfl) Try.func5 (by kernel_rfl)
    (of_decide_eq_true (by kernel_rfl)) (by unfold Func.isWrapper; first | (rw [if_pos (by decide +kernel)]; kernel_rfl) | (rw [if_neg (by decide +kernel)]; exact ⟨rfl, rfl⟩))
    (fun os started H enc _ => lifted os started H enc)

/-- THE STATEMENT -/
theorem proved : Rows.VmPureSaid := over
#print axioms proved
end Go.Proofs.Ythngbakbiocadaa.vmPure
