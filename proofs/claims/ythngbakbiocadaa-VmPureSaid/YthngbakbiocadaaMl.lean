/-
  The walk of VmEnds.
-/
import Derived.Test.YthngbakbiocadaaMk
import Derived.BigQuiet
import Derived.Deep.DeepCutAuto

namespace Go.Proofs.Ythngbakbiocadaa
set_option maxRecDepth 100000
open Go.ChangeShapes Go.WideShapes Go.ChangeAt Go.RowKit Go.Maps

def AwakeC : Prop := ∀ w, Calls Try.prog 6 #[] w fun e w' => e = .returned (.bool true) ∧ Below w.heap.size w w'
def suL (s : Su) (A : Option Addr) (n c : Nat) (E : Option Addr) (q e : Nat) : List Value := [.int .i64 s.hook, .bool s.fit, .slice A n c, .slice E q e]
theorem suT : RowT 25 4 := ⟨⟨_, Try.underlying25, rfl⟩, by kernel_rfl⟩
def roomK (fs : List Fl) (k : Nat) : Int := ((fs.take k).map Fl.room).sum
theorem roomK_succ {fs : List Fl} {k : Nat} {f : Fl} (h : fs[k]? = some f) : roomK fs (k + 1) = roomK fs k + f.room := by
  obtain ⟨hk, e⟩ := List.getElem?_eq_some_iff.1 h
  unfold roomK
  rw [List.take_succ_eq_append_getElem hk, List.map_append, List.sum_append, e]
  simp
theorem good_room {f : Fl} (h : goodFl f = true) : 1 ≤ f.room ∧ f.room ≤ 8 := by
  unfold goodFl goodSp spOf at h
  simp at h
  omega
theorem roomK_le {fs : List Fl} (h : fs.all goodFl = true) : ∀ k, 0 ≤ roomK fs k ∧ roomK fs k ≤ 8 * k
  | 0 => by simp [roomK]
  | k + 1 => by
    have ih := roomK_le h k
    by_cases hk : k < fs.length
    · rw [roomK_succ (List.getElem?_eq_getElem hk)]
      have h8 := good_room (List.all_eq_true.1 h _ (List.getElem_mem hk))
      omega
    · unfold roomK at ih ⊢
      rw [List.take_of_length_le (by omega)] at ih ⊢
      omega
theorem sum_room {h : Int} {fs : List Fl} {o : VOut} (he : EndsF h fs o) (hg : fs.all goodFl = true) : ∀ k, k ≤ fs.length → (sumK o.ds k : Int) ≤ roomK fs k
  | 0, _ => by simp [sumK, roomK]
  | k + 1, hk => by
    have ih := sum_room he hg k (by omega)
    have hf : fs[k]? = some (fs[k]'(by omega)) := List.getElem?_eq_getElem _
    have hd : o.ds[k]? = some (o.ds[k]'(by rw [he.len]; omega)) := List.getElem?_eq_getElem _
    rw [roomK_succ hf, sumK_succ hd]
    obtain ⟨h1, h2⟩ := he.fits k _ _ hf hd
    have h3 := good_room (List.all_eq_true.1 hg _ (List.mem_of_getElem? hf))
    have := h1.1
    omega
/-- what stays while the outcome is looked at -/
structure EndC (w0 : World) (G : Nat) (ov : Value) (os : List Value) (X : Nat) (xv : Value) (xs : List Value) (ba : Nat) (v : Value) (bs : List Nat) (S : Nat → Prop) (ds : List Dt) (W : World) : Prop where
  o : RowAt W G (ov :: os)
  x : RowAt W X (xv :: xs)
  st : StAt sP ba v bs S ds W
  below : Below w0.heap.size w0 W
theorem EndC.step {w0 : World} {G : Nat} {ov : Value} {os : List Value} {X : Nat} {xv : Value} {xs : List Value} {ba : Nat} {v : Value} {bs : List Nat} {S : Nat → Prop} {ds : List Dt} {W W' : World} (h : EndC w0 G ov os X xv xs ba v bs S ds W) (hb : Below W.heap.size W W') : EndC w0 G ov os X xv xs ba v bs S ds W' :=
  ⟨h.o.step hb, h.x.step hb, h.st.step hb, h.below.trans (hb.mono h.below.size)⟩
/-- what the operations behind the run give -/
def postVals (o : VOut) (s : RunK) (qi : Nat) : Value := match s with
  | .s2 O k c _ _ => if qi = 10 then .tuple #[.agg (outL o O k c).toArray, .int .i64 o.err] else if qi = 11 then .agg (outL o O k c).toArray else .int .i64 o.err
  | .s3 _ _ _ _ _ => .int .i64 o.err
  | _ => undef
section
variable (K : V.Calc) (hi : Int → Bool)
set_option maxHeartbeats 8000000 in
theorem ends_walk (HR0 : RunC K hi) (HA0 : AwakeC) (s : Su) (A : Option Addr) (n c : Nat) (E : Option Addr) (q e0 : Nat) (B : Option Addr) (m d : Nat) (xs : List Y.In) (w : World) (hctx : NumsAt w A n s.ctx) (hfs : FlsAt w E q s.fs) (hins : Yq.InsAt w B m xs) :
    Calls Try.prog 3 #[.agg (suL s A n c E q e0).toArray, .slice B m d] w fun e w' => e = .returned (.bool true) ∧ Below w.heap.size w w' := by
  have HR := Lib.hid HR0
  have HA := Lib.hid HA0
  have HC := Lib.hid hctx
  have HF := Lib.hid hfs
  have HI := Lib.hid hins
  have R0 := Lib.hid (rowAt_new w (suL s A n c E q e0) 25)
  have B0 : Hid (Below w.heap.size w (w.alloc (.cells (suL s A n c E q e0).toArray 25))) := Lib.hid ((Below.refl _ _).alloc (Nat.le_refl _) _)
  have HXL : Hid (w.heap.size < (w.alloc (.cells (suL s A n c E q e0).toArray 25)).heap.size) := Lib.hid (by simp)
  clear HR0 HA0 hctx hfs hins
  by_cases h100 : m ≤ 100
  · by_cases h40 : n ≤ 40
    · have h100i : ¬ ((100 : Int) < (m : Int)) := by omega
      have h100d : decide ((100 : Int) < (m : Int)) = false := decide_eq_false h100i
      have h40i : ¬ ((40 : Int) < (n : Int)) := by omega
      unfold suL at R0 B0 HXL ⊢
      go_enter Try.func3, Try.ntmps3
      go_upto_region 1 with fail
      generalize w.alloc (.cells _ 25) = W1 at R0 B0 HXL ⊢
      go_wp2_with fail
      refine (HA.out _).mono ?_
      rintro e w2 ⟨rfl, hb⟩
      have R := Lib.hid (R0.out.step hb)
      have BB := Lib.hid (B0.out.trans (hb.mono B0.out.size))
      have HX2 : Hid (w.heap.size < w2.heap.size) := Lib.hid (Nat.lt_of_lt_of_le HXL.out hb.size)
      clear hb R0 B0 HXL
      have hx2 := R.out.cell 2 _ rfl
      have hx3 := R.out.cell 3 _ rfl
      go_wp2_with fail
      refine (filled_any E q e0 s.fs _ (HF.out.step BB.out)).mono ?_
      intro e w3 hg
      unfold FilledGive at hg
      by_cases hcond : q ≤ 4 ∧ s.fs.all goodFl = true
      · rw [if_pos hcond] at hg
        obtain ⟨v, u, bs, cs, ba, bb, U, rfl, hpr, hb, hba0⟩ := hg
        have HBA : Hid (w.heap.size ≤ ba) := Lib.hid (Nat.le_trans BB.out.size hba0)
        have P := Lib.hid hpr
        have HGA := Lib.hid hcond.2
        have HQ4 := Lib.hid hcond.1
        have hx0 := (R.out.step hb).cell 0 _ rfl
        have hx3' := (R.out.step hb).cell 3 _ rfl
        have R3 := Lib.hid (R.out.step hb)
        have B3 := Lib.hid (BB.out.trans (hb.mono BB.out.size))
        have HX3 : Hid (¬ U w.heap.size) := Lib.hid (fun hu => by have := (hpr.lt hu).1; have := HX2.out; omega)
        clear hcond hb hpr hx2 hx3
        cases hkn : Hk.knownF s.hook with
        | false =>
          have HKN := Lib.hid hkn
          go_wp2_with (go_at_call 8; refine (known_any s.hook _).mono ?_; rw [HKN.out]; rintro e w4 ⟨rfl, rfl⟩)
          go_ret
          exact ⟨rfl, B3.out⟩
        | true =>
          have HKN := Lib.hid hkn
          have HRT := Lib.hid (fun w h => Yq.right_any B m d xs w h (by unfold maxLen; omega))
          cases hrt : Y.all xs with
          | false =>
            rw [hrt] at HRT
            go_wp2_with (first
              | (go_at_call 8; refine (known_any s.hook _).mono ?_; rw [HKN.out]; rintro e w4 ⟨rfl, rfl⟩)
              | (go_at_call 9; refine (HRT.out _ (HI.out.step B3.out)).mono ?_; rintro e w5 ⟨rfl, hb⟩))
            go_ret
            exact ⟨rfl, B3.out.trans (hb.mono B3.out.size)⟩
          | true =>
            have HRX := Lib.hid hrt
            rw [hrt] at HRT
            clear hkn hrt
            go_upto_region 10 with (first
              | (go_at_call 8; refine (known_any s.hook _).mono ?_; rw [HKN.out]; rintro e w4 ⟨rfl, rfl⟩)
              | (go_at_call 9; refine (HRT.out _ (HI.out.step B3.out)).mono ?_; rintro e w5 ⟨rfl, hb⟩; have P5 := Lib.hid (P.out.step hb); have R5 := Lib.hid (R3.out.step hb); have B5 := Lib.hid (B3.out.trans (hb.mono B3.out.size)); have hy3 := R5.out.cell 3 _ rfl; clear hb))
            go_loopw [8, 10, 47] (fun r _ i wr => ∃ k : Nat, k ≤ q ∧ i = .int .i64 (k : Int) ∧ r = .int .i64 (roomK s.fs k) ∧ Hid (PrAt w2.heap.size ba bb v u bs cs U (dsF s.fs) (dsF s.fs) wr) ∧ Hid (RowAt wr w.heap.size (suL s A n c E q e0)) ∧ Hid (Below w.heap.size w wr)) (fun _ _ i _ => q - (intOf i).toNat)
            case atStart => exact ⟨0, Nat.zero_le _, rfl, rfl, P5, R5, B5⟩
            case round =>
              clear P5 R5 B5 hy3 P R3 B3 hx0 hx3'
              obtain ⟨k, hk, rfl, rfl, P, R3, B3⟩ := hrel
              rename World => wo
              have hq4 := HQ4.out
              by_cases hlt : k < q
              · obtain ⟨b, off, f, E2, m2, c2, hE, hb, hx, hc0, hm1, hm2, hes⟩ := HF.out.get k hlt
                subst hE
                have HC3 : Hid (wo.rangeAt b (off + k * 3) (flL f E2 m2 c2)) := Lib.hid (fun j v hv => (B3.out.cell (p := ⟨b, _, none⟩) hb).trans (hc0 j v hv))
                have hgf := good_room (List.all_eq_true.1 HGA.out f (List.mem_of_getElem? hx))
                have hrk := roomK_le HGA.out k
                have HS := Lib.hid (roomK_succ hx)
                have hw : IntKind.i64.wrap (roomK s.fs k + f.room) = roomK s.fs (k + 1) := by rw [HS.out, IntKind.wrap_i64]; omega
                have hk0 : (0 : Int) ≤ (k : Int) := by omega
                have hk1 : (k : Int) < (q : Int) := by omega
                clear hx hc0 hb hes hm1 hm2 hgf hrk
                go_wp2_with (first
                  | ((with_reducible refine wpList_load_at flT HC3.out rfl rfl (.tmp 49) rfl ?_ ?_); (exact rfl))
                  | ((with_reducible refine wpList_store_newrow flT (vs := flL f E2 m2 c2) rfl (flL_one _ _ _ _) rfl (.tmp 10) (.tmp 50) rfl rfl ?_ ?_ ?_); (exact rfl); (exact rfl); intro W4 hP hb hz; have hrc := hP.cell 1 _ rfl; replace P := Lib.hid (P.out.step hb); replace R3 := Lib.hid (RowAt.step (v := .int .i64 s.hook) (vs := [.bool s.fit, .slice A n c, .slice (some ⟨b, off, none⟩) q e0]) R3.out hb); replace B3 := Lib.hid (B3.out.trans (hb.mono B3.out.size)); clear hP hb hz; generalize wo.heap.size = G at hrc ⊢))
                go_roundw
                case rel => exact ⟨k + 1, by omega, by go_num, rfl, P, R3, B3⟩
                case measure => (simp [intOf] <;> omega)
              · obtain rfl : q = k := by omega
                clear hlt hk
                obtain ⟨S, T, hs1, _, _, hs4, _, _, hs7, _⟩ := P.out
                have HST := Lib.hid hs1
                have HXS : Hid (¬ S w.heap.size) := Lib.hid (fun hh => HX3.out (hs4 _ hh))
                have HBW := Lib.hid hs7
                have HXR : Hid (RowAt wo w.heap.size [.int .i64 s.hook, .bool s.fit, .slice A n c, .slice E q e0]) := R3
                have BW := B3
                have HDO := Lib.hid (dsF_ok HGA.out)
                have HD4 : Hid ((dsF s.fs).length ≤ 4) := Lib.hid (by unfold dsF; rw [List.length_map, HF.out.len]; exact HQ4.out)
                have HN10 : Hid ((Hk.inF s.hook).toNat ≤ 1000) := Lib.hid (by have := inF_range s.hook; omega)
                obtain ⟨o, ho⟩ : ∃ o, outOf K hi s.hook (ctxF s.hook s.ctx) xs (dsF s.fs) = o := ⟨_, rfl⟩
                have HO := Lib.hid ho
                clear ho hs1 hs4 hs7 P R3 B3
                go_upto_region 14 with fail
                go_cut [11, 12] (fun p q' wx => ∃ (O : Option Addr) (k c : Nat) (S' : Nat → Prop) (G : Nat), p = .pointer (some ⟨G, 0, none⟩) ∧ q' = .int .i64 o.err ∧ Hid (RnR wo ba v bs S o (Hk.inF s.hook).toNat (ctxF s.hook s.ctx) (.s3 O k c S' G) wx))
                case first =>
                  refine Lv.wp_region_linm (RnR wo ba (v) bs S o (Hk.inF s.hook).toNat (ctxF s.hook s.ctx)) (fun _ _ => true) (fun i => i == 7 || i == 9 || i == 13 || i == 14) (fun qi => [.pointer (some ⟨w.heap.size, 0, none⟩), .int .i64 s.hook, v, .pointer (some ⟨w.heap.size, 0, none⟩), .int .i64 s.hook, .pointer (some ⟨w.heap.size, 2, none⟩), .slice A n c, undef, .slice B m d, undef, undef, undef, undef, undef, undef, undef].getD qi undef) (RunK.s0 none) (by kernel_rfl) (by kernel_rfl) (⟨(Below.refl _ _).drew, Gz.none⟩) (fun _ => rfl) ?_
                  refine Lv.linm_step (i := 0) (d := some 57) (v := .pointer (some ⟨w.heap.size, 0, none⟩)) rfl rfl (by kernel_rfl) (by kernel_rfl) rfl rfl (ordm_value (by kernel_rfl) ?_) ?_
                  · (intro s' w' _ hS; go_simp)
                  (try simp only [Act.put, List.setIfInBounds_toArray, List.set_cons_zero, List.set_cons_succ])
                  refine Lv.linm_step (i := 3) (d := some 60) (v := .pointer (some ⟨w.heap.size, 0, none⟩)) rfl rfl (by kernel_rfl) (by kernel_rfl) rfl rfl (ordm_value (by kernel_rfl) ?_) ?_
                  · (intro s' w' _ hS; go_simp)
                  (try simp only [Act.put, List.setIfInBounds_toArray, List.set_cons_zero, List.set_cons_succ])
                  refine Lv.linm_step (i := 5) (d := some 62) (v := .pointer (some ⟨w.heap.size, 2, none⟩)) rfl rfl (by kernel_rfl) (by kernel_rfl) rfl rfl (ordm_value (by kernel_rfl) ?_) ?_
                  · (intro s' w' _ hS; go_simp)
                  (try simp only [Act.put, List.setIfInBounds_toArray, List.set_cons_zero, List.set_cons_succ])
                  refine Lv.linm_step (i := 1) (d := some 58) (v := .int .i64 s.hook) rfl rfl (by kernel_rfl) (by kernel_rfl) rfl rfl (ordm_value (by kernel_rfl) ?_) ?_
                  · (intro s' w' _ hS; have hrr := RnR.row hS HXR.out HXS.out; have hcc := hrr.cell 0 _ rfl; go_simp)
                  (try simp only [Act.put, List.setIfInBounds_toArray, List.set_cons_zero, List.set_cons_succ])
                  refine Lv.linm_step (i := 2) (d := some 59) (v := v) rfl rfl (by kernel_rfl) (by kernel_rfl) rfl rfl (ordm_value (by kernel_rfl) ?_) ?_
                  · (intro s' w' _ hS; go_simp)
                  (try simp only [Act.put, List.setIfInBounds_toArray, List.set_cons_zero, List.set_cons_succ])
                  refine Lv.linm_step (i := 4) (d := some 61) (v := .int .i64 s.hook) rfl rfl (by kernel_rfl) (by kernel_rfl) rfl rfl (ordm_value (by kernel_rfl) ?_) ?_
                  · (intro s' w' _ hS; have hrr := RnR.row hS HXR.out HXS.out; have hcc := hrr.cell 0 _ rfl; go_simp)
                  (try simp only [Act.put, List.setIfInBounds_toArray, List.set_cons_zero, List.set_cons_succ])
                  refine Lv.linm_step (i := 6) (d := some 63) (v := .slice A n c) rfl rfl (by kernel_rfl) (by kernel_rfl) rfl rfl (ordm_value (by kernel_rfl) ?_) ?_
                  · (intro s' w' _ hS; have hrr := RnR.row hS HXR.out HXS.out; have hcc := hrr.cell 2 _ rfl; go_simp)
                  (try simp only [Act.put, List.setIfInBounds_toArray, List.set_cons_zero, List.set_cons_succ])
                  refine Lv.linm_step (i := 8) (d := some 65) (v := .slice B m d) rfl rfl (by kernel_rfl) (by kernel_rfl) rfl rfl (ordm_value (by kernel_rfl) ?_) ?_
                  · (intro s' w' _ hS; go_simp)
                  (try simp only [Act.put, List.setIfInBounds_toArray, List.set_cons_zero, List.set_cons_succ])
                  refine Lv.linm_fork2 7 13 (di := some 64) (dj := some 11) (fun _ _ _ => undef) (fun _ _ _ => undef) (fun u s' => ∃ g, u = .slice (some ⟨g, 0, none⟩) (Hk.inF s.hook).toNat (Hk.inF s.hook).toNat ∧ s' = RunK.s1 g none) (fun u s' => ∃ G, u = .pointer (some ⟨G, 0, none⟩) ∧ s' = RunK.s0 (some G)) (by kernel_rfl) (by decide) rfl rfl rfl rfl rfl rfl (lost_no (fun _ _ _ _ => rfl)) (lost_no (fun _ _ _ _ => rfl)) (by kernel_rfl) (fun W hS => rn_ctx rfl rfl (HC.out.step BW.out) (by omega) hS (by go_simp <;> rfl)) (by kernel_rfl) (fun W hS => rn_alloc0 hS (by go_simp; rfl)) ?_ ?_
                  · rintro _ s' ⟨g, rfl, rfl⟩
                    (try simp only [Act.put, List.setIfInBounds_toArray, List.set_cons_zero, List.set_cons_succ])
                    refine Lv.linm_fork2 9 13 (di := some 66) (dj := some 11) (fun _ s' qi => postVals o s' qi) (fun _ _ _ => undef) (fun u s' => ∃ O k c S', u = .tuple #[.agg (outL o O k c).toArray, .int .i64 o.err] ∧ s' = RunK.s2 O k c S' none) (fun u s' => ∃ G, u = .pointer (some ⟨G, 0, none⟩) ∧ s' = RunK.s1 g (some G)) (by kernel_rfl) (by decide) rfl rfl rfl rfl rfl rfl (lost_no (fun _ _ _ _ => rfl)) (lost_no (fun _ _ _ _ => rfl)) (by kernel_rfl) (fun W hS => rn_run HR.out HI.out BW.out HBA.out HST.out HBW.out HDO.out HD4.out (by omega) HN10.out HO.out.symm hS (by go_simp <;> rfl)) (by kernel_rfl) (fun W hS => rn_alloc1 hS (by go_simp; rfl)) ?_ ?_
                    · rintro _ s' ⟨O, k, c, S', rfl, rfl⟩
                      (try simp only [Act.put, List.setIfInBounds_toArray, List.set_cons_zero, List.set_cons_succ])
                      refine Lv.linm_step (i := 10) (d := some 56) (v := .tuple #[.agg (outL o O k c).toArray, .int .i64 o.err]) rfl rfl (by kernel_rfl) (by kernel_rfl) rfl rfl (ordm_value (by kernel_rfl) ?_) ?_
                      · (intro s' w' _ hS; go_simp)
                      (try simp only [Act.put, List.setIfInBounds_toArray, List.set_cons_zero, List.set_cons_succ])
                      refine Lv.linm_step (i := 11) (d := some 67) (v := .agg (outL o O k c).toArray) rfl rfl (by kernel_rfl) (by kernel_rfl) rfl rfl (ordm_value (by kernel_rfl) ?_) ?_
                      · (intro s' w' _ hS; go_simp)
                      (try simp only [Act.put, List.setIfInBounds_toArray, List.set_cons_zero, List.set_cons_succ])
                      refine Lv.linm_step (i := 12) (d := some 68) (v := .int .i64 o.err) rfl rfl (by kernel_rfl) (by kernel_rfl) rfl rfl (ordm_value (by kernel_rfl) ?_) ?_
                      · (intro s' w' _ hS; go_simp)
                      (try simp only [Act.put, List.setIfInBounds_toArray, List.set_cons_zero, List.set_cons_succ])
                      refine Lv.linm_sole 13 (di := some 11) (fun _ s' qi => postVals o s' qi) (fun u s' => ∃ G, u = .pointer (some ⟨G, 0, none⟩) ∧ s' = RunK.s2 O k c S' (some G)) (by kernel_rfl) rfl rfl rfl (lost_no (fun _ _ _ _ => rfl)) (by kernel_rfl) (fun W hS => rn_alloc2 hS (by go_simp; rfl)) ?_
                      rintro _ s' ⟨G, rfl, rfl⟩
                      (try simp only [Act.put, List.setIfInBounds_toArray, List.set_cons_zero, List.set_cons_succ])
                      refine Lv.linm_sole 14 (di := none) (fun _ s' qi => postVals o s' qi) (fun u s' => u = undef ∧ s' = RunK.s3 O k c S' G) (by kernel_rfl) rfl rfl rfl (lost_no (fun _ _ _ _ => rfl)) (by kernel_rfl) (fun W hS => rn_store hS (.tmp 11) (.tmp 67) rfl rfl rfl) ?_
                      rintro _ s' ⟨rfl, rfl⟩
                      (try simp only [Act.put, List.setIfInBounds_toArray, List.set_cons_zero, List.set_cons_succ])
                      refine Lv.linm_step (i := 15) (d := some 12) (v := .int .i64 o.err) rfl rfl (by kernel_rfl) (by kernel_rfl) rfl rfl (ordm_value (by kernel_rfl) ?_) ?_
                      · (intro s' w' _ hS; go_simp)
                      (try simp only [Act.put, List.setIfInBounds_toArray, List.set_cons_zero, List.set_cons_succ])
                      refine Lv.linm_done (by kernel_rfl) ?_
                      intro W hS
                      go_wp2_with fail
                      go_meet
                      case rel => exact ⟨O, k, c, S', G, rfl, rfl, Lib.hid hS⟩
                    · rintro _ s' ⟨G, rfl, rfl⟩
                      (try simp only [Act.put, List.setIfInBounds_toArray, List.set_cons_zero, List.set_cons_succ])
                      refine Lv.linm_sole 9 (di := some 66) (fun _ s' qi => postVals o s' qi) (fun u s' => ∃ O k c S', u = .tuple #[.agg (outL o O k c).toArray, .int .i64 o.err] ∧ s' = RunK.s2 O k c S' (some G)) (by kernel_rfl) rfl rfl rfl (lost_no (fun _ _ _ _ => rfl)) (by kernel_rfl) (fun W hS => rn_run HR.out HI.out BW.out HBA.out HST.out HBW.out HDO.out HD4.out (by omega) HN10.out HO.out.symm hS (by go_simp <;> rfl)) ?_
                      rintro _ s' ⟨O, k, c, S', rfl, rfl⟩
                      (try simp only [Act.put, List.setIfInBounds_toArray, List.set_cons_zero, List.set_cons_succ])
                      refine Lv.linm_step (i := 10) (d := some 56) (v := .tuple #[.agg (outL o O k c).toArray, .int .i64 o.err]) rfl rfl (by kernel_rfl) (by kernel_rfl) rfl rfl (ordm_value (by kernel_rfl) ?_) ?_
                      · (intro s' w' _ hS; go_simp)
                      (try simp only [Act.put, List.setIfInBounds_toArray, List.set_cons_zero, List.set_cons_succ])
                      refine Lv.linm_step (i := 11) (d := some 67) (v := .agg (outL o O k c).toArray) rfl rfl (by kernel_rfl) (by kernel_rfl) rfl rfl (ordm_value (by kernel_rfl) ?_) ?_
                      · (intro s' w' _ hS; go_simp)
                      (try simp only [Act.put, List.setIfInBounds_toArray, List.set_cons_zero, List.set_cons_succ])
                      refine Lv.linm_step (i := 12) (d := some 68) (v := .int .i64 o.err) rfl rfl (by kernel_rfl) (by kernel_rfl) rfl rfl (ordm_value (by kernel_rfl) ?_) ?_
                      · (intro s' w' _ hS; go_simp)
                      (try simp only [Act.put, List.setIfInBounds_toArray, List.set_cons_zero, List.set_cons_succ])
                      refine Lv.linm_sole 14 (di := none) (fun _ s' qi => postVals o s' qi) (fun u s' => u = undef ∧ s' = RunK.s3 O k c S' G) (by kernel_rfl) rfl rfl rfl (lost_no (fun _ _ _ _ => rfl)) (by kernel_rfl) (fun W hS => rn_store hS (.tmp 11) (.tmp 67) rfl rfl rfl) ?_
                      rintro _ s' ⟨rfl, rfl⟩
                      (try simp only [Act.put, List.setIfInBounds_toArray, List.set_cons_zero, List.set_cons_succ])
                      refine Lv.linm_step (i := 15) (d := some 12) (v := .int .i64 o.err) rfl rfl (by kernel_rfl) (by kernel_rfl) rfl rfl (ordm_value (by kernel_rfl) ?_) ?_
                      · (intro s' w' _ hS; go_simp)
                      (try simp only [Act.put, List.setIfInBounds_toArray, List.set_cons_zero, List.set_cons_succ])
                      refine Lv.linm_done (by kernel_rfl) ?_
                      intro W hS
                      go_wp2_with fail
                      go_meet
                      case rel => exact ⟨O, k, c, S', G, rfl, rfl, Lib.hid hS⟩
                  · rintro _ s' ⟨G, rfl, rfl⟩
                    (try simp only [Act.put, List.setIfInBounds_toArray, List.set_cons_zero, List.set_cons_succ])
                    refine Lv.linm_sole 7 (di := some 64) (fun _ _ _ => undef) (fun u s' => ∃ g, u = .slice (some ⟨g, 0, none⟩) (Hk.inF s.hook).toNat (Hk.inF s.hook).toNat ∧ s' = RunK.s1 g (some G)) (by kernel_rfl) rfl rfl rfl (lost_no (fun _ _ _ _ => rfl)) (by kernel_rfl) (fun W hS => rn_ctx rfl rfl (HC.out.step BW.out) (by omega) hS (by go_simp <;> rfl)) ?_
                    rintro _ s' ⟨g, rfl, rfl⟩
                    (try simp only [Act.put, List.setIfInBounds_toArray, List.set_cons_zero, List.set_cons_succ])
                    refine Lv.linm_sole 9 (di := some 66) (fun _ s' qi => postVals o s' qi) (fun u s' => ∃ O k c S', u = .tuple #[.agg (outL o O k c).toArray, .int .i64 o.err] ∧ s' = RunK.s2 O k c S' (some G)) (by kernel_rfl) rfl rfl rfl (lost_no (fun _ _ _ _ => rfl)) (by kernel_rfl) (fun W hS => rn_run HR.out HI.out BW.out HBA.out HST.out HBW.out HDO.out HD4.out (by omega) HN10.out HO.out.symm hS (by go_simp <;> rfl)) ?_
                    rintro _ s' ⟨O, k, c, S', rfl, rfl⟩
                    (try simp only [Act.put, List.setIfInBounds_toArray, List.set_cons_zero, List.set_cons_succ])
                    refine Lv.linm_step (i := 10) (d := some 56) (v := .tuple #[.agg (outL o O k c).toArray, .int .i64 o.err]) rfl rfl (by kernel_rfl) (by kernel_rfl) rfl rfl (ordm_value (by kernel_rfl) ?_) ?_
                    · (intro s' w' _ hS; go_simp)
                    (try simp only [Act.put, List.setIfInBounds_toArray, List.set_cons_zero, List.set_cons_succ])
                    refine Lv.linm_step (i := 11) (d := some 67) (v := .agg (outL o O k c).toArray) rfl rfl (by kernel_rfl) (by kernel_rfl) rfl rfl (ordm_value (by kernel_rfl) ?_) ?_
                    · (intro s' w' _ hS; go_simp)
                    (try simp only [Act.put, List.setIfInBounds_toArray, List.set_cons_zero, List.set_cons_succ])
                    refine Lv.linm_step (i := 12) (d := some 68) (v := .int .i64 o.err) rfl rfl (by kernel_rfl) (by kernel_rfl) rfl rfl (ordm_value (by kernel_rfl) ?_) ?_
                    · (intro s' w' _ hS; go_simp)
                    (try simp only [Act.put, List.setIfInBounds_toArray, List.set_cons_zero, List.set_cons_succ])
                    refine Lv.linm_sole 14 (di := none) (fun _ s' qi => postVals o s' qi) (fun u s' => u = undef ∧ s' = RunK.s3 O k c S' G) (by kernel_rfl) rfl rfl rfl (lost_no (fun _ _ _ _ => rfl)) (by kernel_rfl) (fun W hS => rn_store hS (.tmp 11) (.tmp 67) rfl rfl rfl) ?_
                    rintro _ s' ⟨rfl, rfl⟩
                    (try simp only [Act.put, List.setIfInBounds_toArray, List.set_cons_zero, List.set_cons_succ])
                    refine Lv.linm_step (i := 15) (d := some 12) (v := .int .i64 o.err) rfl rfl (by kernel_rfl) (by kernel_rfl) rfl rfl (ordm_value (by kernel_rfl) ?_) ?_
                    · (intro s' w' _ hS; go_simp)
                    (try simp only [Act.put, List.setIfInBounds_toArray, List.set_cons_zero, List.set_cons_succ])
                    refine Lv.linm_done (by kernel_rfl) ?_
                    intro W hS
                    go_wp2_with fail
                    go_meet
                    case rel => exact ⟨O, k, c, S', G, rfl, rfl, Lib.hid hS⟩
                case rest =>
                  obtain ⟨O, k, c', S', G, rfl, rfl, HK⟩ := hcut
                  have HE := ends_facts K hi s.hook s.ctx xs s.fs HKN.out HRX.out HGA.out
                  rw [HO.out] at HE
                  have hsum := sum_room HE HGA.out s.fs.length (Nat.le_refl _)
                  have hlen := HF.out.len
                  rw [hlen] at hsum
                  obtain ⟨hran, hrow, _, _⟩ := HK.out
                  have hentr : ∀ W, StAt sP ba v bs S' o.ds W → Calls Try.prog 13 #[v] W fun e w' => e = .returned (.int .i64 (sumK o.ds q : Int)) ∧ Below W.heap.size W w' := fun W h => by
                    have hh := st_entries h (fun d hd => by
                      obtain ⟨i, hi', rfl⟩ := List.getElem_of_mem hd
                      exact (HE.fits i _ _ (List.getElem?_eq_getElem (by rw [← HE.len]; exact hi')) (List.getElem?_eq_getElem hi')).1) (by rw [HE.len, hlen]; exact HQ4.out)
                    rw [HE.len, hlen] at hh
                    exact hh
                  have HOT := Lib.hid (fun w => out_any s.hook w)
                  have hk : (k : Int) = Hk.outF s.hook := by rw [← HE.out, hran.out.len]
                  rw [← hk] at HOT
                  have hxr := RnR.row HK.out HXR.out HXS.out
                  have EC : Hid (EndC w G _ _ _ _ _ _ _ _ _ _ _) := Lib.hid ⟨hrow, hxr, hran.st, BW.out.trans (hran.but.below BW.out.size (fun x hx => Nat.le_trans HBA.out (HST.out.ge hx)))⟩
                  have HEN := Lib.hid hentr
                  obtain ⟨how, why, verdict, steps, err, out, ods⟩ := o
                  obtain ⟨e1, e2, ⟨e3, e3'⟩, e4, _, _, _⟩ := HE
                  simp only at e1 e2 e3 e3' e4 hsum HEN
                  subst e1
                  generalize sumK ods q = sm at hsum HEN
                  generalize roomK s.fs q = rm at hsum ⊢
                  clear hentr hran hrow hxr hk hlen HK HO HST HBW HDO HD4 HN10 HXR HXS HX3
                  rcases e2 with ⟨e5, e6⟩ | ⟨e5, ⟨e6, e6'⟩, e7⟩
                  · subst e5 e6
                    clear e4
                    go_upto_region 15 with fail
                    refine wq_region (C := EndC w G (.int .i64 1) [.int .i64 0, .int .i64 verdict, .int .i64 steps, .slice O k c'] w.heap.size (.int .i64 s.hook) [.bool s.fit, .slice A n c, .slice E q e0] ba v bs S' ods) (by kernel_rfl) (EC.out.step (Below.refl _ _).drew) ?_
                    refine wq_take (.int .i64 0) (by kernel_rfl) ?_ ?_
                    · (intro w' hS; go_simp)
                    (try simp only [Act.put, List.setIfInBounds_toArray, List.set_cons_zero, List.set_cons_succ])
                    refine wq_take (.bool true) (by kernel_rfl) ?_ ?_
                    · (intro w' hS; have q1 := e3; have q2 := e3'; have q3 := hsum; go_simp <;> (first | done | rfl | omega | simp_all))
                    (try simp only [Act.put, List.setIfInBounds_toArray, List.set_cons_zero, List.set_cons_succ])
                    refine wq_take (.bool true) (by kernel_rfl) ?_ ?_
                    · (intro w' hS; go_simp)
                    (try simp only [Act.put, List.setIfInBounds_toArray, List.set_cons_zero, List.set_cons_succ])
                    refine wq_take (.pointer (some ⟨G, 0, none⟩)) (by kernel_rfl) ?_ ?_
                    · (intro w' hS; go_simp)
                    (try simp only [Act.put, List.setIfInBounds_toArray, List.set_cons_zero, List.set_cons_succ])
                    refine wq_take (.int .i64 1) (by kernel_rfl) ?_ ?_
                    · (intro w' hS; have hcc := hS.o.cell 0 _ rfl; go_simp)
                    (try simp only [Act.put, List.setIfInBounds_toArray, List.set_cons_zero, List.set_cons_succ])
                    refine wq_take (.bool true) (by kernel_rfl) ?_ ?_
                    · (intro w' hS; have q1 := e3; have q2 := e3'; have q3 := hsum; go_simp <;> (first | done | rfl | omega | simp_all))
                    (try simp only [Act.put, List.setIfInBounds_toArray, List.set_cons_zero, List.set_cons_succ])
                    refine wq_take (.bool true) (by kernel_rfl) ?_ ?_
                    · (intro w' hS; go_simp)
                    (try simp only [Act.put, List.setIfInBounds_toArray, List.set_cons_zero, List.set_cons_succ])
                    refine wq_take (.pointer (some ⟨G, 1, none⟩)) (by kernel_rfl) ?_ ?_
                    · (intro w' hS; go_simp)
                    (try simp only [Act.put, List.setIfInBounds_toArray, List.set_cons_zero, List.set_cons_succ])
                    refine wq_take (.int .i64 0) (by kernel_rfl) ?_ ?_
                    · (intro w' hS; have hcc := hS.o.cell 1 _ rfl; go_simp)
                    (try simp only [Act.put, List.setIfInBounds_toArray, List.set_cons_zero, List.set_cons_succ])
                    refine wq_take (.bool true) (by kernel_rfl) ?_ ?_
                    · (intro w' hS; have q1 := e3; have q2 := e3'; have q3 := hsum; go_simp <;> (first | done | rfl | omega | simp_all))
                    (try simp only [Act.put, List.setIfInBounds_toArray, List.set_cons_zero, List.set_cons_succ])
                    refine wq_take (.bool true) (by kernel_rfl) ?_ ?_
                    · (intro w' hS; go_simp)
                    (try simp only [Act.put, List.setIfInBounds_toArray, List.set_cons_zero, List.set_cons_succ])
                    refine wq_take (.bool true) (by kernel_rfl) ?_ ?_
                    · (intro w' hS; go_simp)
                    (try simp only [Act.put, List.setIfInBounds_toArray, List.set_cons_zero, List.set_cons_succ])
                    refine wq_pass (by kernel_rfl) ?_
                    (try simp only [Act.put, List.setIfInBounds_toArray, List.set_cons_zero, List.set_cons_succ])
                    refine wq_pass (by kernel_rfl) ?_
                    (try simp only [Act.put, List.setIfInBounds_toArray, List.set_cons_zero, List.set_cons_succ])
                    refine wq_pass (by kernel_rfl) ?_
                    (try simp only [Act.put, List.setIfInBounds_toArray, List.set_cons_zero, List.set_cons_succ])
                    refine wq_pass (by kernel_rfl) ?_
                    (try simp only [Act.put, List.setIfInBounds_toArray, List.set_cons_zero, List.set_cons_succ])
                    refine wq_pass (by kernel_rfl) ?_
                    (try simp only [Act.put, List.setIfInBounds_toArray, List.set_cons_zero, List.set_cons_succ])
                    refine wq_pass (by kernel_rfl) ?_
                    (try simp only [Act.put, List.setIfInBounds_toArray, List.set_cons_zero, List.set_cons_succ])
                    refine wq_pass (by kernel_rfl) ?_
                    (try simp only [Act.put, List.setIfInBounds_toArray, List.set_cons_zero, List.set_cons_succ])
                    refine wq_pass (by kernel_rfl) ?_
                    (try simp only [Act.put, List.setIfInBounds_toArray, List.set_cons_zero, List.set_cons_succ])
                    refine wq_pass (by kernel_rfl) ?_
                    (try simp only [Act.put, List.setIfInBounds_toArray, List.set_cons_zero, List.set_cons_succ])
                    refine wq_pass (by kernel_rfl) ?_
                    (try simp only [Act.put, List.setIfInBounds_toArray, List.set_cons_zero, List.set_cons_succ])
                    refine wq_pass (by kernel_rfl) ?_
                    (try simp only [Act.put, List.setIfInBounds_toArray, List.set_cons_zero, List.set_cons_succ])
                    refine wq_pass (by kernel_rfl) ?_
                    (try simp only [Act.put, List.setIfInBounds_toArray, List.set_cons_zero, List.set_cons_succ])
                    refine wq_pass (by kernel_rfl) ?_
                    (try simp only [Act.put, List.setIfInBounds_toArray, List.set_cons_zero, List.set_cons_succ])
                    refine wq_pass (by kernel_rfl) ?_
                    (try simp only [Act.put, List.setIfInBounds_toArray, List.set_cons_zero, List.set_cons_succ])
                    refine wq_pass (by kernel_rfl) ?_
                    (try simp only [Act.put, List.setIfInBounds_toArray, List.set_cons_zero, List.set_cons_succ])
                    refine wq_pass (by kernel_rfl) ?_
                    (try simp only [Act.put, List.setIfInBounds_toArray, List.set_cons_zero, List.set_cons_succ])
                    refine wq_pass (by kernel_rfl) ?_
                    (try simp only [Act.put, List.setIfInBounds_toArray, List.set_cons_zero, List.set_cons_succ])
                    refine wq_pass (by kernel_rfl) ?_
                    (try simp only [Act.put, List.setIfInBounds_toArray, List.set_cons_zero, List.set_cons_succ])
                    refine wq_take (.bool true) (by kernel_rfl) ?_ ?_
                    · (intro w' hS; go_simp)
                    (try simp only [Act.put, List.setIfInBounds_toArray, List.set_cons_zero, List.set_cons_succ])
                    refine wq_take (.bool true) (by kernel_rfl) ?_ ?_
                    · (intro w' hS; go_simp)
                    (try simp only [Act.put, List.setIfInBounds_toArray, List.set_cons_zero, List.set_cons_succ])
                    refine wq_take (.bool true) (by kernel_rfl) ?_ ?_
                    · (intro w' hS; go_simp)
                    (try simp only [Act.put, List.setIfInBounds_toArray, List.set_cons_zero, List.set_cons_succ])
                    refine wq_take (.pointer (some ⟨G, 3, none⟩)) (by kernel_rfl) ?_ ?_
                    · (intro w' hS; go_simp)
                    (try simp only [Act.put, List.setIfInBounds_toArray, List.set_cons_zero, List.set_cons_succ])
                    refine wq_take (.int .i64 steps) (by kernel_rfl) ?_ ?_
                    · (intro w' hS; have hcc := hS.o.cell 3 _ rfl; go_simp)
                    (try simp only [Act.put, List.setIfInBounds_toArray, List.set_cons_zero, List.set_cons_succ])
                    refine wq_take (.bool true) (by kernel_rfl) ?_ ?_
                    · (intro w' hS; have q1 := e3; have q2 := e3'; have q3 := hsum; go_simp <;> (first | done | rfl | omega | simp_all))
                    (try simp only [Act.put, List.setIfInBounds_toArray, List.set_cons_zero, List.set_cons_succ])
                    refine wq_take (.bool true) (by kernel_rfl) ?_ ?_
                    · (intro w' hS; go_simp)
                    (try simp only [Act.put, List.setIfInBounds_toArray, List.set_cons_zero, List.set_cons_succ])
                    refine wq_take (.bool true) (by kernel_rfl) ?_ ?_
                    · (intro w' hS; go_simp)
                    (try simp only [Act.put, List.setIfInBounds_toArray, List.set_cons_zero, List.set_cons_succ])
                    refine wq_take (.pointer (some ⟨G, 3, none⟩)) (by kernel_rfl) ?_ ?_
                    · (intro w' hS; go_simp)
                    (try simp only [Act.put, List.setIfInBounds_toArray, List.set_cons_zero, List.set_cons_succ])
                    refine wq_take (.int .i64 steps) (by kernel_rfl) ?_ ?_
                    · (intro w' hS; have hcc := hS.o.cell 3 _ rfl; go_simp)
                    (try simp only [Act.put, List.setIfInBounds_toArray, List.set_cons_zero, List.set_cons_succ])
                    refine wq_take (.bool true) (by kernel_rfl) ?_ ?_
                    · (intro w' hS; have q1 := e3; have q2 := e3'; have q3 := hsum; go_simp <;> (first | done | rfl | omega | simp_all))
                    (try simp only [Act.put, List.setIfInBounds_toArray, List.set_cons_zero, List.set_cons_succ])
                    refine wq_take (.bool true) (by kernel_rfl) ?_ ?_
                    · (intro w' hS; go_simp)
                    (try simp only [Act.put, List.setIfInBounds_toArray, List.set_cons_zero, List.set_cons_succ])
                    refine wq_take (.bool true) (by kernel_rfl) ?_ ?_
                    · (intro w' hS; go_simp)
                    (try simp only [Act.put, List.setIfInBounds_toArray, List.set_cons_zero, List.set_cons_succ])
                    refine wq_take (.pointer (some ⟨G, 1, none⟩)) (by kernel_rfl) ?_ ?_
                    · (intro w' hS; go_simp)
                    (try simp only [Act.put, List.setIfInBounds_toArray, List.set_cons_zero, List.set_cons_succ])
                    refine wq_take (.int .i64 0) (by kernel_rfl) ?_ ?_
                    · (intro w' hS; have hcc := hS.o.cell 1 _ rfl; go_simp)
                    (try simp only [Act.put, List.setIfInBounds_toArray, List.set_cons_zero, List.set_cons_succ])
                    refine wq_take (.bool true) (by kernel_rfl) ?_ ?_
                    · (intro w' hS; have q1 := e3; have q2 := e3'; have q3 := hsum; go_simp <;> (first | done | rfl | omega | simp_all))
                    (try simp only [Act.put, List.setIfInBounds_toArray, List.set_cons_zero, List.set_cons_succ])
                    refine wq_take (.bool true) (by kernel_rfl) ?_ ?_
                    · (intro w' hS; go_simp)
                    (try simp only [Act.put, List.setIfInBounds_toArray, List.set_cons_zero, List.set_cons_succ])
                    refine wq_pass (by kernel_rfl) ?_
                    (try simp only [Act.put, List.setIfInBounds_toArray, List.set_cons_zero, List.set_cons_succ])
                    refine wq_pass (by kernel_rfl) ?_
                    (try simp only [Act.put, List.setIfInBounds_toArray, List.set_cons_zero, List.set_cons_succ])
                    refine wq_pass (by kernel_rfl) ?_
                    (try simp only [Act.put, List.setIfInBounds_toArray, List.set_cons_zero, List.set_cons_succ])
                    refine wq_take (.bool true) (by kernel_rfl) ?_ ?_
                    · (intro w' hS; go_simp)
                    (try simp only [Act.put, List.setIfInBounds_toArray, List.set_cons_zero, List.set_cons_succ])
                    refine wq_take (.bool true) (by kernel_rfl) ?_ ?_
                    · (intro w' hS; go_simp)
                    (try simp only [Act.put, List.setIfInBounds_toArray, List.set_cons_zero, List.set_cons_succ])
                    refine wq_take (.bool true) (by kernel_rfl) ?_ ?_
                    · (intro w' hS; go_simp)
                    (try simp only [Act.put, List.setIfInBounds_toArray, List.set_cons_zero, List.set_cons_succ])
                    refine wq_take (.pointer (some ⟨G, 4, none⟩)) (by kernel_rfl) ?_ ?_
                    · (intro w' hS; go_simp)
                    (try simp only [Act.put, List.setIfInBounds_toArray, List.set_cons_zero, List.set_cons_succ])
                    refine wq_take (.slice O k c') (by kernel_rfl) ?_ ?_
                    · (intro w' hS; have hcc := hS.o.cell 4 _ rfl; go_simp)
                    (try simp only [Act.put, List.setIfInBounds_toArray, List.set_cons_zero, List.set_cons_succ])
                    refine wq_take (.int .i64 (k : Int)) (by kernel_rfl) ?_ ?_
                    · (intro w' hS; go_simp)
                    (try simp only [Act.put, List.setIfInBounds_toArray, List.set_cons_zero, List.set_cons_succ])
                    refine wq_take (.pointer (some ⟨w.heap.size, 0, none⟩)) (by kernel_rfl) ?_ ?_
                    · (intro w' hS; go_simp)
                    (try simp only [Act.put, List.setIfInBounds_toArray, List.set_cons_zero, List.set_cons_succ])
                    refine wq_take (.int .i64 s.hook) (by kernel_rfl) ?_ ?_
                    · (intro w' hS; have hcc := hS.x.cell 0 _ rfl; go_simp)
                    (try simp only [Act.put, List.setIfInBounds_toArray, List.set_cons_zero, List.set_cons_succ])
                    refine wq_call 12 #[.int .i64 s.hook] (.int .i64 (k : Int)) (by kernel_rfl) (fun _ => by go_simp <;> rfl) (fun W hS => (HOT.out W).mono (by rintro e w6 ⟨rfl, rfl⟩; exact ⟨rfl, hS⟩)) ?_
                    (try simp only [Act.put, List.setIfInBounds_toArray, List.set_cons_zero, List.set_cons_succ])
                    refine wq_take (.bool true) (by kernel_rfl) ?_ ?_
                    · (intro w' hS; have q1 := e3; have q2 := e3'; have q3 := hsum; go_simp <;> (first | done | rfl | omega | simp_all))
                    (try simp only [Act.put, List.setIfInBounds_toArray, List.set_cons_zero, List.set_cons_succ])
                    refine wq_take (.bool true) (by kernel_rfl) ?_ ?_
                    · (intro w' hS; go_simp)
                    (try simp only [Act.put, List.setIfInBounds_toArray, List.set_cons_zero, List.set_cons_succ])
                    refine wq_take (.bool true) (by kernel_rfl) ?_ ?_
                    · (intro w' hS; go_simp)
                    (try simp only [Act.put, List.setIfInBounds_toArray, List.set_cons_zero, List.set_cons_succ])
                    refine wq_take (v) (by kernel_rfl) ?_ ?_
                    · (intro w' hS; go_simp)
                    (try simp only [Act.put, List.setIfInBounds_toArray, List.set_cons_zero, List.set_cons_succ])
                    refine wq_call 13 #[v] (.int .i64 (sm : Int)) (by kernel_rfl) (fun _ => by go_simp <;> rfl) (fun W hS => (HEN.out W hS.st).mono (fun e w7 hh => ⟨hh.1, hS.step hh.2⟩)) ?_
                    (try simp only [Act.put, List.setIfInBounds_toArray, List.set_cons_zero, List.set_cons_succ])
                    refine wq_take (.int .i64 rm) (by kernel_rfl) ?_ ?_
                    · (intro w' hS; go_simp)
                    (try simp only [Act.put, List.setIfInBounds_toArray, List.set_cons_zero, List.set_cons_succ])
                    refine wq_take (.bool true) (by kernel_rfl) ?_ ?_
                    · (intro w' hS; have q1 := e3; have q2 := e3'; have q3 := hsum; go_simp <;> (first | done | rfl | omega | simp_all))
                    (try simp only [Act.put, List.setIfInBounds_toArray, List.set_cons_zero, List.set_cons_succ])
                    refine wq_take (.bool true) (by kernel_rfl) ?_ ?_
                    · (intro w' hS; go_simp)
                    (try simp only [Act.put, List.setIfInBounds_toArray, List.set_cons_zero, List.set_cons_succ])
                    refine wq_take (.bool true) (by kernel_rfl) ?_ ?_
                    · (intro w' hS; go_simp)
                    (try simp only [Act.put, List.setIfInBounds_toArray, List.set_cons_zero, List.set_cons_succ])
                    refine wq_nil ?_
                    intro w2 hC
                    go_wp2
                    go_ret
                    exact ⟨rfl, hC.below⟩
                  · subst e5 e7
                    by_cases e8 : why = 1
                    · have e9 := e4 e8
                      subst e8 e9
                      clear e4
                      go_upto_region 15 with fail
                      refine wq_region (C := EndC w G (.int .i64 2) [.int .i64 1, .int .i64 0, .int .i64 64, .slice O k c'] w.heap.size (.int .i64 s.hook) [.bool s.fit, .slice A n c, .slice E q e0] ba v bs S' ods) (by kernel_rfl) (EC.out.step (Below.refl _ _).drew) ?_
                      refine wq_take (.int .i64 0) (by kernel_rfl) ?_ ?_
                      · (intro w' hS; go_simp)
                      (try simp only [Act.put, List.setIfInBounds_toArray, List.set_cons_zero, List.set_cons_succ])
                      refine wq_take (.bool true) (by kernel_rfl) ?_ ?_
                      · (intro w' hS; have q1 := e3; have q2 := e3'; have q3 := hsum; go_simp <;> (first | done | rfl | omega | simp_all))
                      (try simp only [Act.put, List.setIfInBounds_toArray, List.set_cons_zero, List.set_cons_succ])
                      refine wq_take (.bool true) (by kernel_rfl) ?_ ?_
                      · (intro w' hS; go_simp)
                      (try simp only [Act.put, List.setIfInBounds_toArray, List.set_cons_zero, List.set_cons_succ])
                      refine wq_take (.pointer (some ⟨G, 0, none⟩)) (by kernel_rfl) ?_ ?_
                      · (intro w' hS; go_simp)
                      (try simp only [Act.put, List.setIfInBounds_toArray, List.set_cons_zero, List.set_cons_succ])
                      refine wq_take (.int .i64 2) (by kernel_rfl) ?_ ?_
                      · (intro w' hS; have hcc := hS.o.cell 0 _ rfl; go_simp)
                      (try simp only [Act.put, List.setIfInBounds_toArray, List.set_cons_zero, List.set_cons_succ])
                      refine wq_take (.bool false) (by kernel_rfl) ?_ ?_
                      · (intro w' hS; have q1 := e3; have q2 := e3'; have q3 := hsum; go_simp <;> (first | done | rfl | omega | simp_all))
                      (try simp only [Act.put, List.setIfInBounds_toArray, List.set_cons_zero, List.set_cons_succ])
                      refine wq_take (.bool false) (by kernel_rfl) ?_ ?_
                      · (intro w' hS; go_simp)
                      (try simp only [Act.put, List.setIfInBounds_toArray, List.set_cons_zero, List.set_cons_succ])
                      refine wq_pass (by kernel_rfl) ?_
                      (try simp only [Act.put, List.setIfInBounds_toArray, List.set_cons_zero, List.set_cons_succ])
                      refine wq_pass (by kernel_rfl) ?_
                      (try simp only [Act.put, List.setIfInBounds_toArray, List.set_cons_zero, List.set_cons_succ])
                      refine wq_pass (by kernel_rfl) ?_
                      (try simp only [Act.put, List.setIfInBounds_toArray, List.set_cons_zero, List.set_cons_succ])
                      refine wq_take (.bool false) (by kernel_rfl) ?_ ?_
                      · (intro w' hS; go_simp)
                      (try simp only [Act.put, List.setIfInBounds_toArray, List.set_cons_zero, List.set_cons_succ])
                      refine wq_take (.bool false) (by kernel_rfl) ?_ ?_
                      · (intro w' hS; go_simp)
                      (try simp only [Act.put, List.setIfInBounds_toArray, List.set_cons_zero, List.set_cons_succ])
                      refine wq_take (.pointer (some ⟨G, 0, none⟩)) (by kernel_rfl) ?_ ?_
                      · (intro w' hS; go_simp)
                      (try simp only [Act.put, List.setIfInBounds_toArray, List.set_cons_zero, List.set_cons_succ])
                      refine wq_take (.int .i64 2) (by kernel_rfl) ?_ ?_
                      · (intro w' hS; have hcc := hS.o.cell 0 _ rfl; go_simp)
                      (try simp only [Act.put, List.setIfInBounds_toArray, List.set_cons_zero, List.set_cons_succ])
                      refine wq_take (.bool true) (by kernel_rfl) ?_ ?_
                      · (intro w' hS; have q1 := e3; have q2 := e3'; have q3 := hsum; go_simp <;> (first | done | rfl | omega | simp_all))
                      (try simp only [Act.put, List.setIfInBounds_toArray, List.set_cons_zero, List.set_cons_succ])
                      refine wq_take (.bool true) (by kernel_rfl) ?_ ?_
                      · (intro w' hS; go_simp)
                      (try simp only [Act.put, List.setIfInBounds_toArray, List.set_cons_zero, List.set_cons_succ])
                      refine wq_take (.pointer (some ⟨G, 1, none⟩)) (by kernel_rfl) ?_ ?_
                      · (intro w' hS; go_simp)
                      (try simp only [Act.put, List.setIfInBounds_toArray, List.set_cons_zero, List.set_cons_succ])
                      refine wq_take (.int .i64 1) (by kernel_rfl) ?_ ?_
                      · (intro w' hS; have hcc := hS.o.cell 1 _ rfl; go_simp)
                      (try simp only [Act.put, List.setIfInBounds_toArray, List.set_cons_zero, List.set_cons_succ])
                      refine wq_take (.bool true) (by kernel_rfl) ?_ ?_
                      · (intro w' hS; have q1 := e3; have q2 := e3'; have q3 := hsum; go_simp <;> (first | done | rfl | omega | simp_all))
                      (try simp only [Act.put, List.setIfInBounds_toArray, List.set_cons_zero, List.set_cons_succ])
                      refine wq_take (.bool true) (by kernel_rfl) ?_ ?_
                      · (intro w' hS; go_simp)
                      (try simp only [Act.put, List.setIfInBounds_toArray, List.set_cons_zero, List.set_cons_succ])
                      refine wq_take (.bool true) (by kernel_rfl) ?_ ?_
                      · (intro w' hS; go_simp)
                      (try simp only [Act.put, List.setIfInBounds_toArray, List.set_cons_zero, List.set_cons_succ])
                      refine wq_take (.pointer (some ⟨G, 1, none⟩)) (by kernel_rfl) ?_ ?_
                      · (intro w' hS; go_simp)
                      (try simp only [Act.put, List.setIfInBounds_toArray, List.set_cons_zero, List.set_cons_succ])
                      refine wq_take (.int .i64 1) (by kernel_rfl) ?_ ?_
                      · (intro w' hS; have hcc := hS.o.cell 1 _ rfl; go_simp)
                      (try simp only [Act.put, List.setIfInBounds_toArray, List.set_cons_zero, List.set_cons_succ])
                      refine wq_take (.bool true) (by kernel_rfl) ?_ ?_
                      · (intro w' hS; have q1 := e3; have q2 := e3'; have q3 := hsum; go_simp <;> (first | done | rfl | omega | simp_all))
                      (try simp only [Act.put, List.setIfInBounds_toArray, List.set_cons_zero, List.set_cons_succ])
                      refine wq_take (.bool true) (by kernel_rfl) ?_ ?_
                      · (intro w' hS; go_simp)
                      (try simp only [Act.put, List.setIfInBounds_toArray, List.set_cons_zero, List.set_cons_succ])
                      refine wq_take (.bool true) (by kernel_rfl) ?_ ?_
                      · (intro w' hS; go_simp)
                      (try simp only [Act.put, List.setIfInBounds_toArray, List.set_cons_zero, List.set_cons_succ])
                      refine wq_take (.pointer (some ⟨G, 2, none⟩)) (by kernel_rfl) ?_ ?_
                      · (intro w' hS; go_simp)
                      (try simp only [Act.put, List.setIfInBounds_toArray, List.set_cons_zero, List.set_cons_succ])
                      refine wq_take (.int .i64 0) (by kernel_rfl) ?_ ?_
                      · (intro w' hS; have hcc := hS.o.cell 2 _ rfl; go_simp)
                      (try simp only [Act.put, List.setIfInBounds_toArray, List.set_cons_zero, List.set_cons_succ])
                      refine wq_take (.bool true) (by kernel_rfl) ?_ ?_
                      · (intro w' hS; have q1 := e3; have q2 := e3'; have q3 := hsum; go_simp <;> (first | done | rfl | omega | simp_all))
                      (try simp only [Act.put, List.setIfInBounds_toArray, List.set_cons_zero, List.set_cons_succ])
                      refine wq_take (.bool true) (by kernel_rfl) ?_ ?_
                      · (intro w' hS; go_simp)
                      (try simp only [Act.put, List.setIfInBounds_toArray, List.set_cons_zero, List.set_cons_succ])
                      refine wq_take (.bool true) (by kernel_rfl) ?_ ?_
                      · (intro w' hS; go_simp)
                      (try simp only [Act.put, List.setIfInBounds_toArray, List.set_cons_zero, List.set_cons_succ])
                      refine wq_take (.bool true) (by kernel_rfl) ?_ ?_
                      · (intro w' hS; go_simp)
                      (try simp only [Act.put, List.setIfInBounds_toArray, List.set_cons_zero, List.set_cons_succ])
                      refine wq_take (.bool true) (by kernel_rfl) ?_ ?_
                      · (intro w' hS; go_simp)
                      (try simp only [Act.put, List.setIfInBounds_toArray, List.set_cons_zero, List.set_cons_succ])
                      refine wq_take (.pointer (some ⟨G, 3, none⟩)) (by kernel_rfl) ?_ ?_
                      · (intro w' hS; go_simp)
                      (try simp only [Act.put, List.setIfInBounds_toArray, List.set_cons_zero, List.set_cons_succ])
                      refine wq_take (.int .i64 64) (by kernel_rfl) ?_ ?_
                      · (intro w' hS; have hcc := hS.o.cell 3 _ rfl; go_simp)
                      (try simp only [Act.put, List.setIfInBounds_toArray, List.set_cons_zero, List.set_cons_succ])
                      refine wq_take (.bool true) (by kernel_rfl) ?_ ?_
                      · (intro w' hS; have q1 := e3; have q2 := e3'; have q3 := hsum; go_simp <;> (first | done | rfl | omega | simp_all))
                      (try simp only [Act.put, List.setIfInBounds_toArray, List.set_cons_zero, List.set_cons_succ])
                      refine wq_take (.bool true) (by kernel_rfl) ?_ ?_
                      · (intro w' hS; go_simp)
                      (try simp only [Act.put, List.setIfInBounds_toArray, List.set_cons_zero, List.set_cons_succ])
                      refine wq_take (.bool true) (by kernel_rfl) ?_ ?_
                      · (intro w' hS; go_simp)
                      (try simp only [Act.put, List.setIfInBounds_toArray, List.set_cons_zero, List.set_cons_succ])
                      refine wq_take (.pointer (some ⟨G, 3, none⟩)) (by kernel_rfl) ?_ ?_
                      · (intro w' hS; go_simp)
                      (try simp only [Act.put, List.setIfInBounds_toArray, List.set_cons_zero, List.set_cons_succ])
                      refine wq_take (.int .i64 64) (by kernel_rfl) ?_ ?_
                      · (intro w' hS; have hcc := hS.o.cell 3 _ rfl; go_simp)
                      (try simp only [Act.put, List.setIfInBounds_toArray, List.set_cons_zero, List.set_cons_succ])
                      refine wq_take (.bool true) (by kernel_rfl) ?_ ?_
                      · (intro w' hS; have q1 := e3; have q2 := e3'; have q3 := hsum; go_simp <;> (first | done | rfl | omega | simp_all))
                      (try simp only [Act.put, List.setIfInBounds_toArray, List.set_cons_zero, List.set_cons_succ])
                      refine wq_take (.bool true) (by kernel_rfl) ?_ ?_
                      · (intro w' hS; go_simp)
                      (try simp only [Act.put, List.setIfInBounds_toArray, List.set_cons_zero, List.set_cons_succ])
                      refine wq_take (.bool true) (by kernel_rfl) ?_ ?_
                      · (intro w' hS; go_simp)
                      (try simp only [Act.put, List.setIfInBounds_toArray, List.set_cons_zero, List.set_cons_succ])
                      refine wq_take (.pointer (some ⟨G, 1, none⟩)) (by kernel_rfl) ?_ ?_
                      · (intro w' hS; go_simp)
                      (try simp only [Act.put, List.setIfInBounds_toArray, List.set_cons_zero, List.set_cons_succ])
                      refine wq_take (.int .i64 1) (by kernel_rfl) ?_ ?_
                      · (intro w' hS; have hcc := hS.o.cell 1 _ rfl; go_simp)
                      (try simp only [Act.put, List.setIfInBounds_toArray, List.set_cons_zero, List.set_cons_succ])
                      refine wq_take (.bool false) (by kernel_rfl) ?_ ?_
                      · (intro w' hS; have q1 := e3; have q2 := e3'; have q3 := hsum; go_simp <;> (first | done | rfl | omega | simp_all))
                      (try simp only [Act.put, List.setIfInBounds_toArray, List.set_cons_zero, List.set_cons_succ])
                      refine wq_take (.bool false) (by kernel_rfl) ?_ ?_
                      · (intro w' hS; go_simp)
                      (try simp only [Act.put, List.setIfInBounds_toArray, List.set_cons_zero, List.set_cons_succ])
                      refine wq_take (.pointer (some ⟨G, 3, none⟩)) (by kernel_rfl) ?_ ?_
                      · (intro w' hS; go_simp)
                      (try simp only [Act.put, List.setIfInBounds_toArray, List.set_cons_zero, List.set_cons_succ])
                      refine wq_take (.int .i64 64) (by kernel_rfl) ?_ ?_
                      · (intro w' hS; have hcc := hS.o.cell 3 _ rfl; go_simp)
                      (try simp only [Act.put, List.setIfInBounds_toArray, List.set_cons_zero, List.set_cons_succ])
                      refine wq_take (.bool true) (by kernel_rfl) ?_ ?_
                      · (intro w' hS; have q1 := e3; have q2 := e3'; have q3 := hsum; go_simp <;> (first | done | rfl | omega | simp_all))
                      (try simp only [Act.put, List.setIfInBounds_toArray, List.set_cons_zero, List.set_cons_succ])
                      refine wq_take (.bool true) (by kernel_rfl) ?_ ?_
                      · (intro w' hS; go_simp)
                      (try simp only [Act.put, List.setIfInBounds_toArray, List.set_cons_zero, List.set_cons_succ])
                      refine wq_take (.bool true) (by kernel_rfl) ?_ ?_
                      · (intro w' hS; go_simp)
                      (try simp only [Act.put, List.setIfInBounds_toArray, List.set_cons_zero, List.set_cons_succ])
                      refine wq_take (.bool true) (by kernel_rfl) ?_ ?_
                      · (intro w' hS; go_simp)
                      (try simp only [Act.put, List.setIfInBounds_toArray, List.set_cons_zero, List.set_cons_succ])
                      refine wq_take (.pointer (some ⟨G, 4, none⟩)) (by kernel_rfl) ?_ ?_
                      · (intro w' hS; go_simp)
                      (try simp only [Act.put, List.setIfInBounds_toArray, List.set_cons_zero, List.set_cons_succ])
                      refine wq_take (.slice O k c') (by kernel_rfl) ?_ ?_
                      · (intro w' hS; have hcc := hS.o.cell 4 _ rfl; go_simp)
                      (try simp only [Act.put, List.setIfInBounds_toArray, List.set_cons_zero, List.set_cons_succ])
                      refine wq_take (.int .i64 (k : Int)) (by kernel_rfl) ?_ ?_
                      · (intro w' hS; go_simp)
                      (try simp only [Act.put, List.setIfInBounds_toArray, List.set_cons_zero, List.set_cons_succ])
                      refine wq_take (.pointer (some ⟨w.heap.size, 0, none⟩)) (by kernel_rfl) ?_ ?_
                      · (intro w' hS; go_simp)
                      (try simp only [Act.put, List.setIfInBounds_toArray, List.set_cons_zero, List.set_cons_succ])
                      refine wq_take (.int .i64 s.hook) (by kernel_rfl) ?_ ?_
                      · (intro w' hS; have hcc := hS.x.cell 0 _ rfl; go_simp)
                      (try simp only [Act.put, List.setIfInBounds_toArray, List.set_cons_zero, List.set_cons_succ])
                      refine wq_call 12 #[.int .i64 s.hook] (.int .i64 (k : Int)) (by kernel_rfl) (fun _ => by go_simp <;> rfl) (fun W hS => (HOT.out W).mono (by rintro e w6 ⟨rfl, rfl⟩; exact ⟨rfl, hS⟩)) ?_
                      (try simp only [Act.put, List.setIfInBounds_toArray, List.set_cons_zero, List.set_cons_succ])
                      refine wq_take (.bool true) (by kernel_rfl) ?_ ?_
                      · (intro w' hS; have q1 := e3; have q2 := e3'; have q3 := hsum; go_simp <;> (first | done | rfl | omega | simp_all))
                      (try simp only [Act.put, List.setIfInBounds_toArray, List.set_cons_zero, List.set_cons_succ])
                      refine wq_take (.bool true) (by kernel_rfl) ?_ ?_
                      · (intro w' hS; go_simp)
                      (try simp only [Act.put, List.setIfInBounds_toArray, List.set_cons_zero, List.set_cons_succ])
                      refine wq_take (.bool true) (by kernel_rfl) ?_ ?_
                      · (intro w' hS; go_simp)
                      (try simp only [Act.put, List.setIfInBounds_toArray, List.set_cons_zero, List.set_cons_succ])
                      refine wq_take (v) (by kernel_rfl) ?_ ?_
                      · (intro w' hS; go_simp)
                      (try simp only [Act.put, List.setIfInBounds_toArray, List.set_cons_zero, List.set_cons_succ])
                      refine wq_call 13 #[v] (.int .i64 (sm : Int)) (by kernel_rfl) (fun _ => by go_simp <;> rfl) (fun W hS => (HEN.out W hS.st).mono (fun e w7 hh => ⟨hh.1, hS.step hh.2⟩)) ?_
                      (try simp only [Act.put, List.setIfInBounds_toArray, List.set_cons_zero, List.set_cons_succ])
                      refine wq_take (.int .i64 rm) (by kernel_rfl) ?_ ?_
                      · (intro w' hS; go_simp)
                      (try simp only [Act.put, List.setIfInBounds_toArray, List.set_cons_zero, List.set_cons_succ])
                      refine wq_take (.bool true) (by kernel_rfl) ?_ ?_
                      · (intro w' hS; have q1 := e3; have q2 := e3'; have q3 := hsum; go_simp <;> (first | done | rfl | omega | simp_all))
                      (try simp only [Act.put, List.setIfInBounds_toArray, List.set_cons_zero, List.set_cons_succ])
                      refine wq_take (.bool true) (by kernel_rfl) ?_ ?_
                      · (intro w' hS; go_simp)
                      (try simp only [Act.put, List.setIfInBounds_toArray, List.set_cons_zero, List.set_cons_succ])
                      refine wq_take (.bool true) (by kernel_rfl) ?_ ?_
                      · (intro w' hS; go_simp)
                      (try simp only [Act.put, List.setIfInBounds_toArray, List.set_cons_zero, List.set_cons_succ])
                      refine wq_nil ?_
                      intro w2 hC
                      go_wp2
                      go_ret
                      exact ⟨rfl, hC.below⟩
                    · clear e4
                      go_upto_region 15 with fail
                      refine wq_region (C := EndC w G (.int .i64 2) [.int .i64 why, .int .i64 0, .int .i64 steps, .slice O k c'] w.heap.size (.int .i64 s.hook) [.bool s.fit, .slice A n c, .slice E q e0] ba v bs S' ods) (by kernel_rfl) (EC.out.step (Below.refl _ _).drew) ?_
                      refine wq_take (.int .i64 0) (by kernel_rfl) ?_ ?_
                      · (intro w' hS; go_simp)
                      (try simp only [Act.put, List.setIfInBounds_toArray, List.set_cons_zero, List.set_cons_succ])
                      refine wq_take (.bool true) (by kernel_rfl) ?_ ?_
                      · (intro w' hS; have q1 := e3; have q2 := e3'; have q3 := hsum; have q4 := e6; have q5 := e6'; have q6 := e8; go_simp <;> (first | done | rfl | omega | simp_all))
                      (try simp only [Act.put, List.setIfInBounds_toArray, List.set_cons_zero, List.set_cons_succ])
                      refine wq_take (.bool true) (by kernel_rfl) ?_ ?_
                      · (intro w' hS; go_simp)
                      (try simp only [Act.put, List.setIfInBounds_toArray, List.set_cons_zero, List.set_cons_succ])
                      refine wq_take (.pointer (some ⟨G, 0, none⟩)) (by kernel_rfl) ?_ ?_
                      · (intro w' hS; go_simp)
                      (try simp only [Act.put, List.setIfInBounds_toArray, List.set_cons_zero, List.set_cons_succ])
                      refine wq_take (.int .i64 2) (by kernel_rfl) ?_ ?_
                      · (intro w' hS; have hcc := hS.o.cell 0 _ rfl; go_simp)
                      (try simp only [Act.put, List.setIfInBounds_toArray, List.set_cons_zero, List.set_cons_succ])
                      refine wq_take (.bool false) (by kernel_rfl) ?_ ?_
                      · (intro w' hS; have q1 := e3; have q2 := e3'; have q3 := hsum; have q4 := e6; have q5 := e6'; have q6 := e8; go_simp <;> (first | done | rfl | omega | simp_all))
                      (try simp only [Act.put, List.setIfInBounds_toArray, List.set_cons_zero, List.set_cons_succ])
                      refine wq_take (.bool false) (by kernel_rfl) ?_ ?_
                      · (intro w' hS; go_simp)
                      (try simp only [Act.put, List.setIfInBounds_toArray, List.set_cons_zero, List.set_cons_succ])
                      refine wq_pass (by kernel_rfl) ?_
                      (try simp only [Act.put, List.setIfInBounds_toArray, List.set_cons_zero, List.set_cons_succ])
                      refine wq_pass (by kernel_rfl) ?_
                      (try simp only [Act.put, List.setIfInBounds_toArray, List.set_cons_zero, List.set_cons_succ])
                      refine wq_pass (by kernel_rfl) ?_
                      (try simp only [Act.put, List.setIfInBounds_toArray, List.set_cons_zero, List.set_cons_succ])
                      refine wq_take (.bool false) (by kernel_rfl) ?_ ?_
                      · (intro w' hS; go_simp)
                      (try simp only [Act.put, List.setIfInBounds_toArray, List.set_cons_zero, List.set_cons_succ])
                      refine wq_take (.bool false) (by kernel_rfl) ?_ ?_
                      · (intro w' hS; go_simp)
                      (try simp only [Act.put, List.setIfInBounds_toArray, List.set_cons_zero, List.set_cons_succ])
                      refine wq_take (.pointer (some ⟨G, 0, none⟩)) (by kernel_rfl) ?_ ?_
                      · (intro w' hS; go_simp)
                      (try simp only [Act.put, List.setIfInBounds_toArray, List.set_cons_zero, List.set_cons_succ])
                      refine wq_take (.int .i64 2) (by kernel_rfl) ?_ ?_
                      · (intro w' hS; have hcc := hS.o.cell 0 _ rfl; go_simp)
                      (try simp only [Act.put, List.setIfInBounds_toArray, List.set_cons_zero, List.set_cons_succ])
                      refine wq_take (.bool true) (by kernel_rfl) ?_ ?_
                      · (intro w' hS; have q1 := e3; have q2 := e3'; have q3 := hsum; have q4 := e6; have q5 := e6'; have q6 := e8; go_simp <;> (first | done | rfl | omega | simp_all))
                      (try simp only [Act.put, List.setIfInBounds_toArray, List.set_cons_zero, List.set_cons_succ])
                      refine wq_take (.bool true) (by kernel_rfl) ?_ ?_
                      · (intro w' hS; go_simp)
                      (try simp only [Act.put, List.setIfInBounds_toArray, List.set_cons_zero, List.set_cons_succ])
                      refine wq_take (.pointer (some ⟨G, 1, none⟩)) (by kernel_rfl) ?_ ?_
                      · (intro w' hS; go_simp)
                      (try simp only [Act.put, List.setIfInBounds_toArray, List.set_cons_zero, List.set_cons_succ])
                      refine wq_take (.int .i64 why) (by kernel_rfl) ?_ ?_
                      · (intro w' hS; have hcc := hS.o.cell 1 _ rfl; go_simp)
                      (try simp only [Act.put, List.setIfInBounds_toArray, List.set_cons_zero, List.set_cons_succ])
                      refine wq_take (.bool true) (by kernel_rfl) ?_ ?_
                      · (intro w' hS; have q1 := e3; have q2 := e3'; have q3 := hsum; have q4 := e6; have q5 := e6'; have q6 := e8; go_simp <;> (first | done | rfl | omega | simp_all))
                      (try simp only [Act.put, List.setIfInBounds_toArray, List.set_cons_zero, List.set_cons_succ])
                      refine wq_take (.bool true) (by kernel_rfl) ?_ ?_
                      · (intro w' hS; go_simp)
                      (try simp only [Act.put, List.setIfInBounds_toArray, List.set_cons_zero, List.set_cons_succ])
                      refine wq_take (.bool true) (by kernel_rfl) ?_ ?_
                      · (intro w' hS; go_simp)
                      (try simp only [Act.put, List.setIfInBounds_toArray, List.set_cons_zero, List.set_cons_succ])
                      refine wq_take (.pointer (some ⟨G, 1, none⟩)) (by kernel_rfl) ?_ ?_
                      · (intro w' hS; go_simp)
                      (try simp only [Act.put, List.setIfInBounds_toArray, List.set_cons_zero, List.set_cons_succ])
                      refine wq_take (.int .i64 why) (by kernel_rfl) ?_ ?_
                      · (intro w' hS; have hcc := hS.o.cell 1 _ rfl; go_simp)
                      (try simp only [Act.put, List.setIfInBounds_toArray, List.set_cons_zero, List.set_cons_succ])
                      refine wq_take (.bool true) (by kernel_rfl) ?_ ?_
                      · (intro w' hS; have q1 := e3; have q2 := e3'; have q3 := hsum; have q4 := e6; have q5 := e6'; have q6 := e8; go_simp <;> (first | done | rfl | omega | simp_all))
                      (try simp only [Act.put, List.setIfInBounds_toArray, List.set_cons_zero, List.set_cons_succ])
                      refine wq_take (.bool true) (by kernel_rfl) ?_ ?_
                      · (intro w' hS; go_simp)
                      (try simp only [Act.put, List.setIfInBounds_toArray, List.set_cons_zero, List.set_cons_succ])
                      refine wq_take (.bool true) (by kernel_rfl) ?_ ?_
                      · (intro w' hS; go_simp)
                      (try simp only [Act.put, List.setIfInBounds_toArray, List.set_cons_zero, List.set_cons_succ])
                      refine wq_take (.pointer (some ⟨G, 2, none⟩)) (by kernel_rfl) ?_ ?_
                      · (intro w' hS; go_simp)
                      (try simp only [Act.put, List.setIfInBounds_toArray, List.set_cons_zero, List.set_cons_succ])
                      refine wq_take (.int .i64 0) (by kernel_rfl) ?_ ?_
                      · (intro w' hS; have hcc := hS.o.cell 2 _ rfl; go_simp)
                      (try simp only [Act.put, List.setIfInBounds_toArray, List.set_cons_zero, List.set_cons_succ])
                      refine wq_take (.bool true) (by kernel_rfl) ?_ ?_
                      · (intro w' hS; have q1 := e3; have q2 := e3'; have q3 := hsum; have q4 := e6; have q5 := e6'; have q6 := e8; go_simp <;> (first | done | rfl | omega | simp_all))
                      (try simp only [Act.put, List.setIfInBounds_toArray, List.set_cons_zero, List.set_cons_succ])
                      refine wq_take (.bool true) (by kernel_rfl) ?_ ?_
                      · (intro w' hS; go_simp)
                      (try simp only [Act.put, List.setIfInBounds_toArray, List.set_cons_zero, List.set_cons_succ])
                      refine wq_take (.bool true) (by kernel_rfl) ?_ ?_
                      · (intro w' hS; go_simp)
                      (try simp only [Act.put, List.setIfInBounds_toArray, List.set_cons_zero, List.set_cons_succ])
                      refine wq_take (.bool true) (by kernel_rfl) ?_ ?_
                      · (intro w' hS; go_simp)
                      (try simp only [Act.put, List.setIfInBounds_toArray, List.set_cons_zero, List.set_cons_succ])
                      refine wq_take (.bool true) (by kernel_rfl) ?_ ?_
                      · (intro w' hS; go_simp)
                      (try simp only [Act.put, List.setIfInBounds_toArray, List.set_cons_zero, List.set_cons_succ])
                      refine wq_take (.pointer (some ⟨G, 3, none⟩)) (by kernel_rfl) ?_ ?_
                      · (intro w' hS; go_simp)
                      (try simp only [Act.put, List.setIfInBounds_toArray, List.set_cons_zero, List.set_cons_succ])
                      refine wq_take (.int .i64 steps) (by kernel_rfl) ?_ ?_
                      · (intro w' hS; have hcc := hS.o.cell 3 _ rfl; go_simp)
                      (try simp only [Act.put, List.setIfInBounds_toArray, List.set_cons_zero, List.set_cons_succ])
                      refine wq_take (.bool true) (by kernel_rfl) ?_ ?_
                      · (intro w' hS; have q1 := e3; have q2 := e3'; have q3 := hsum; have q4 := e6; have q5 := e6'; have q6 := e8; go_simp <;> (first | done | rfl | omega | simp_all))
                      (try simp only [Act.put, List.setIfInBounds_toArray, List.set_cons_zero, List.set_cons_succ])
                      refine wq_take (.bool true) (by kernel_rfl) ?_ ?_
                      · (intro w' hS; go_simp)
                      (try simp only [Act.put, List.setIfInBounds_toArray, List.set_cons_zero, List.set_cons_succ])
                      refine wq_take (.bool true) (by kernel_rfl) ?_ ?_
                      · (intro w' hS; go_simp)
                      (try simp only [Act.put, List.setIfInBounds_toArray, List.set_cons_zero, List.set_cons_succ])
                      refine wq_take (.pointer (some ⟨G, 3, none⟩)) (by kernel_rfl) ?_ ?_
                      · (intro w' hS; go_simp)
                      (try simp only [Act.put, List.setIfInBounds_toArray, List.set_cons_zero, List.set_cons_succ])
                      refine wq_take (.int .i64 steps) (by kernel_rfl) ?_ ?_
                      · (intro w' hS; have hcc := hS.o.cell 3 _ rfl; go_simp)
                      (try simp only [Act.put, List.setIfInBounds_toArray, List.set_cons_zero, List.set_cons_succ])
                      refine wq_take (.bool true) (by kernel_rfl) ?_ ?_
                      · (intro w' hS; have q1 := e3; have q2 := e3'; have q3 := hsum; have q4 := e6; have q5 := e6'; have q6 := e8; go_simp <;> (first | done | rfl | omega | simp_all))
                      (try simp only [Act.put, List.setIfInBounds_toArray, List.set_cons_zero, List.set_cons_succ])
                      refine wq_take (.bool true) (by kernel_rfl) ?_ ?_
                      · (intro w' hS; go_simp)
                      (try simp only [Act.put, List.setIfInBounds_toArray, List.set_cons_zero, List.set_cons_succ])
                      refine wq_take (.bool true) (by kernel_rfl) ?_ ?_
                      · (intro w' hS; go_simp)
                      (try simp only [Act.put, List.setIfInBounds_toArray, List.set_cons_zero, List.set_cons_succ])
                      refine wq_take (.pointer (some ⟨G, 1, none⟩)) (by kernel_rfl) ?_ ?_
                      · (intro w' hS; go_simp)
                      (try simp only [Act.put, List.setIfInBounds_toArray, List.set_cons_zero, List.set_cons_succ])
                      refine wq_take (.int .i64 why) (by kernel_rfl) ?_ ?_
                      · (intro w' hS; have hcc := hS.o.cell 1 _ rfl; go_simp)
                      (try simp only [Act.put, List.setIfInBounds_toArray, List.set_cons_zero, List.set_cons_succ])
                      refine wq_take (.bool true) (by kernel_rfl) ?_ ?_
                      · (intro w' hS; have q1 := e3; have q2 := e3'; have q3 := hsum; have q4 := e6; have q5 := e6'; have q6 := e8; go_simp <;> (first | done | rfl | omega | simp_all))
                      (try simp only [Act.put, List.setIfInBounds_toArray, List.set_cons_zero, List.set_cons_succ])
                      refine wq_take (.bool true) (by kernel_rfl) ?_ ?_
                      · (intro w' hS; go_simp)
                      (try simp only [Act.put, List.setIfInBounds_toArray, List.set_cons_zero, List.set_cons_succ])
                      refine wq_pass (by kernel_rfl) ?_
                      (try simp only [Act.put, List.setIfInBounds_toArray, List.set_cons_zero, List.set_cons_succ])
                      refine wq_pass (by kernel_rfl) ?_
                      (try simp only [Act.put, List.setIfInBounds_toArray, List.set_cons_zero, List.set_cons_succ])
                      refine wq_pass (by kernel_rfl) ?_
                      (try simp only [Act.put, List.setIfInBounds_toArray, List.set_cons_zero, List.set_cons_succ])
                      refine wq_take (.bool true) (by kernel_rfl) ?_ ?_
                      · (intro w' hS; go_simp)
                      (try simp only [Act.put, List.setIfInBounds_toArray, List.set_cons_zero, List.set_cons_succ])
                      refine wq_take (.bool true) (by kernel_rfl) ?_ ?_
                      · (intro w' hS; go_simp)
                      (try simp only [Act.put, List.setIfInBounds_toArray, List.set_cons_zero, List.set_cons_succ])
                      refine wq_take (.bool true) (by kernel_rfl) ?_ ?_
                      · (intro w' hS; go_simp)
                      (try simp only [Act.put, List.setIfInBounds_toArray, List.set_cons_zero, List.set_cons_succ])
                      refine wq_take (.pointer (some ⟨G, 4, none⟩)) (by kernel_rfl) ?_ ?_
                      · (intro w' hS; go_simp)
                      (try simp only [Act.put, List.setIfInBounds_toArray, List.set_cons_zero, List.set_cons_succ])
                      refine wq_take (.slice O k c') (by kernel_rfl) ?_ ?_
                      · (intro w' hS; have hcc := hS.o.cell 4 _ rfl; go_simp)
                      (try simp only [Act.put, List.setIfInBounds_toArray, List.set_cons_zero, List.set_cons_succ])
                      refine wq_take (.int .i64 (k : Int)) (by kernel_rfl) ?_ ?_
                      · (intro w' hS; go_simp)
                      (try simp only [Act.put, List.setIfInBounds_toArray, List.set_cons_zero, List.set_cons_succ])
                      refine wq_take (.pointer (some ⟨w.heap.size, 0, none⟩)) (by kernel_rfl) ?_ ?_
                      · (intro w' hS; go_simp)
                      (try simp only [Act.put, List.setIfInBounds_toArray, List.set_cons_zero, List.set_cons_succ])
                      refine wq_take (.int .i64 s.hook) (by kernel_rfl) ?_ ?_
                      · (intro w' hS; have hcc := hS.x.cell 0 _ rfl; go_simp)
                      (try simp only [Act.put, List.setIfInBounds_toArray, List.set_cons_zero, List.set_cons_succ])
                      refine wq_call 12 #[.int .i64 s.hook] (.int .i64 (k : Int)) (by kernel_rfl) (fun _ => by go_simp <;> rfl) (fun W hS => (HOT.out W).mono (by rintro e w6 ⟨rfl, rfl⟩; exact ⟨rfl, hS⟩)) ?_
                      (try simp only [Act.put, List.setIfInBounds_toArray, List.set_cons_zero, List.set_cons_succ])
                      refine wq_take (.bool true) (by kernel_rfl) ?_ ?_
                      · (intro w' hS; have q1 := e3; have q2 := e3'; have q3 := hsum; have q4 := e6; have q5 := e6'; have q6 := e8; go_simp <;> (first | done | rfl | omega | simp_all))
                      (try simp only [Act.put, List.setIfInBounds_toArray, List.set_cons_zero, List.set_cons_succ])
                      refine wq_take (.bool true) (by kernel_rfl) ?_ ?_
                      · (intro w' hS; go_simp)
                      (try simp only [Act.put, List.setIfInBounds_toArray, List.set_cons_zero, List.set_cons_succ])
                      refine wq_take (.bool true) (by kernel_rfl) ?_ ?_
                      · (intro w' hS; go_simp)
                      (try simp only [Act.put, List.setIfInBounds_toArray, List.set_cons_zero, List.set_cons_succ])
                      refine wq_take (v) (by kernel_rfl) ?_ ?_
                      · (intro w' hS; go_simp)
                      (try simp only [Act.put, List.setIfInBounds_toArray, List.set_cons_zero, List.set_cons_succ])
                      refine wq_call 13 #[v] (.int .i64 (sm : Int)) (by kernel_rfl) (fun _ => by go_simp <;> rfl) (fun W hS => (HEN.out W hS.st).mono (fun e w7 hh => ⟨hh.1, hS.step hh.2⟩)) ?_
                      (try simp only [Act.put, List.setIfInBounds_toArray, List.set_cons_zero, List.set_cons_succ])
                      refine wq_take (.int .i64 rm) (by kernel_rfl) ?_ ?_
                      · (intro w' hS; go_simp)
                      (try simp only [Act.put, List.setIfInBounds_toArray, List.set_cons_zero, List.set_cons_succ])
                      refine wq_take (.bool true) (by kernel_rfl) ?_ ?_
                      · (intro w' hS; have q1 := e3; have q2 := e3'; have q3 := hsum; have q4 := e6; have q5 := e6'; have q6 := e8; go_simp <;> (first | done | rfl | omega | simp_all))
                      (try simp only [Act.put, List.setIfInBounds_toArray, List.set_cons_zero, List.set_cons_succ])
                      refine wq_take (.bool true) (by kernel_rfl) ?_ ?_
                      · (intro w' hS; go_simp)
                      (try simp only [Act.put, List.setIfInBounds_toArray, List.set_cons_zero, List.set_cons_succ])
                      refine wq_take (.bool true) (by kernel_rfl) ?_ ?_
                      · (intro w' hS; go_simp)
                      (try simp only [Act.put, List.setIfInBounds_toArray, List.set_cons_zero, List.set_cons_succ])
                      refine wq_nil ?_
                      intro w2 hC
                      go_wp2
                      go_ret
                      exact ⟨rfl, hC.below⟩
      · rw [if_neg hcond] at hg
        obtain ⟨rfl, hb⟩ := hg
        have HBF := Lib.hid (BB.out.trans (hb.mono BB.out.size))
        clear hb hcond
        go_wp2
        go_ret
        exact ⟨rfl, HBF.out⟩
    · have h100i : ¬ ((100 : Int) < (m : Int)) := by omega
      have h100d : decide ((100 : Int) < (m : Int)) = false := decide_eq_false h100i
      have h40i : ((40 : Int) < (n : Int)) := by omega
      unfold suL at R0 B0 HXL ⊢
      go_enter Try.func3, Try.ntmps3
      go_upto_region 1 with fail
      generalize w.alloc (.cells _ 25) = W1 at R0 B0 HXL ⊢
      go_wp2_with fail
      refine (HA.out _).mono ?_
      rintro e w2 ⟨rfl, hb⟩
      have hx2 := (R0.out.step hb).cell 2 _ rfl
      have HBF := Lib.hid (B0.out.trans (hb.mono B0.out.size))
      clear hb
      go_wp2
      go_ret
      exact ⟨rfl, HBF.out⟩
  · have h100i : ((100 : Int) < (m : Int)) := by omega
    unfold suL at R0 B0 HXL ⊢
    go_enter Try.func3, Try.ntmps3
    go_upto_region 1 with fail
    generalize w.alloc (.cells _ 25) = W1 at R0 B0 HXL ⊢
    go_wp2_with fail
    refine (HA.out _).mono ?_
    rintro e w2 ⟨rfl, hb⟩
    have HBF := Lib.hid (B0.out.trans (hb.mono B0.out.size))
    clear hb
    go_wp2
    go_ret
    exact ⟨rfl, HBF.out⟩
end
end Go.Proofs.Ythngbakbiocadaa
