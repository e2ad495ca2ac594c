/-
  FileSteps, proved: the ops of a step, in one step and one by one.
-/
import Derived.Test.YtncmihikpcdgoaaGreatKar
namespace Go.Proofs.YtncmihikpcdgoaaGreat.fileSteps
open Go.ChangeShapes Go.WideShapes Go.ChangeAt Go.RowKit
open Dk (zeros zeros_length)
open Ii (Ino)
theorem own : ownKnob Tryz.prog.godebug = none := by kernel_rfl
theorem laidOut : laidOutB Tryz.prog = true := by kernel_rfl
theorem pl : Pl.rightB 120 8 = true := by decide
theorem op_cv {n I : Int} {s : Sto} {k : Nat} (h : Calm s n I k) (o : Fop) (ht : o.text.length ≤ 512) : Fs.Cv (Fs.opM n I o) (nv s) 34 := (Fs.cv_op h.vs.pl o (nv s) h.vs.lenV ht).mono (by omega)
/-- what the step of all of them did -/
def Done (s s3 : Sto) (er : Int) (fl : Bool) (os : List Fop) : Prop := (er = 0 ∧ ∃ V L, Fs.stepM 120 8 fl os (nv s) = (.ok (), V, L) ∧ ∀ i, Out 120 i → nv s3 i = V i) ∨ (er ≠ 0 ∧ (Fs.stepM 120 8 fl os (nv s)).1 = .error er ∧ s3 = s)
theorem Done.of {s s3 : Sto} {er : Int} {fl : Bool} {os : List Fop} {k : Nat} {a : Option Unit} (h : Calm s 120 8 k) (hk : k ≤ 100) (hl : os.length ≤ 2) (ht : ∀ o ∈ os, o.text.length ≤ 512) (hto : StepTo 120 8 s (Fs.stepM 120 8 fl os) er s3 a) : Done s s3 er fl os ∧ Calm s3 120 8 (k + 1) := by
  obtain ⟨q, A⟩ := h.pure hk ((Fs.cv_stepM pl fl os (nv s) h.vs.lenV ht).mono (by omega)) hto
  refine ⟨?_, q⟩
  rcases A with ⟨x, V, L, e, e1, e2⟩ | ⟨V, L, e, h0, e2⟩
  · exact Or.inl ⟨e1, V, L, e, e2⟩
  · exact Or.inr ⟨h0, by rw [e], e2⟩
theorem image_eq {V V' : Fs.View} (h : Fs.Eqv 120 V V') : Fs.imageF 120 8 V = Fs.imageF 120 8 V' := Fs.loc_image pl V V' h
/-- an op failed by itself: so did the step -/
theorem Done.bad {s s3 : Sto} {er f : Int} {fl : Bool} {os : List Fop} (h : Done s s3 er fl os) (hb : (Fs.stepM 120 8 fl os (nv s)).1 = .error f) : er = f ∧ Fs.imageF 120 8 (nv s3) = Fs.imageF 120 8 (nv s) := by
  rcases h with ⟨_, V, L, e, _⟩ | ⟨_, e, rfl⟩
  · rw [e] at hb; cases hb
  · rw [e] at hb; injection hb with hb; exact ⟨hb, rfl⟩
theorem Done.good {s s3 : Sto} {er : Int} {fl : Bool} {os : List Fop} (h : Done s s3 er fl os) {L : List Nat} {V U : Fs.View} (hb : Fs.stepM 120 8 fl os (nv s) = (.ok (), V, L)) (hE : Fs.Eqv 120 V U) : er = 0 ∧ Fs.imageF 120 8 (nv s3) = Fs.imageF 120 8 U := by
  rcases h with ⟨e0, V', L', e, e2⟩ | ⟨_, e, _⟩
  · rw [hb] at e
    injection e with _ e
    injection e with e _
    subst e
    exact ⟨e0, image_eq fun i h1 h2 => by rw [e2 i ⟨h2, Or.inr h1⟩]; exact hE i h1 h2⟩
  · rw [hb] at e; cases e
set_option maxRecDepth 100000 in
set_option maxHeartbeats 4000000 in
theorem walk (A : Option Addr) (n c : Nat) (os : List Fop) (A2 : Option Addr) (n2 c2 : Nat) (os2 : List Fop) (fl : Bool) (w : World) (hrow : FopRow w A n os) (hrow2 : FopRow w A2 n2 os2) : Calls Tryz.prog 3 #[.slice A n c, .slice A2 n2 c2, .bool fl] w fun e w' => e = .returned (.bool true) ∧ Below w.heap.size w w' := by
  have hmf : ∀ (fn : Fn) (first cap : Array Value) (w : World), (Instr.makeFunc fn first cap).run Tryz.prog w = .ok (.func fn first cap) w := fun _ _ _ _ => rfl
  have HG := Lib.hid (fun (W : World) (hb : Below w.heap.size w W) => fgreat_any (c := c) (most := 30) (hrow.step hb) (by decide))
  have HG2 := Lib.hid (fun (W : World) (hb : Below w.heap.size w W) => fgreat_any (c := c2) (most := 2) (hrow2.step hb) (by decide))
  have HR := Lib.hid hrow
  have HR2 := Lib.hid hrow2
  have HLN := Lib.hid hrow.len
  have HLN2 := Lib.hid hrow2.len
  have HF : Hid (∀ W, Calls Tryz.prog 9 #[.int .i64 120, .int .i64 8] W fun e w' => ∃ (V : Nat) (b : Blk) (s : Sto), e = .returned (.tuple #[.pointer (some ⟨V, 0, none⟩), .pointer (some ⟨b.d, 0, none⟩)]) ∧ VolAt w' V b s 120 8 0 ∧ FmtS s 120 8 ∧ Below W.heap.size W w' ∧ W.heap.size ≤ V ∧ ∀ k ∈ b.all, W.heap.size ≤ k) := Lib.hid (fun W => lawFresh_any W 120 8 pl)
  clear hrow hrow2
  have T0 := Lib.hid (((Lo.start (L := []) w (by simp)).alloc _ rfl [.slice A2 n2 c2] 22).alloc (w.heap.size + 1) (by simp) [.bool fl] 4)
  go_enter Tryz.func3, Tryz.ntmps3
  go_wp2_with fail
  refine (fawake_any _).mono ?_
  rintro e w1 ⟨rfl, hb1⟩
  have T1 := Lib.hid (T0.out.below hb1)
  clear hb1 T0
  go_wp2_with fail
  refine (HG.out w1 T1.out.bel).mono ?_
  rintro e w2 ⟨g, rfl, hg, hb2⟩
  have T2 := Lib.hid (T1.out.below hb2)
  have cO := (T2.out.get 0 _ rfl).cell 0 _ rfl
  clear hb2 T1
  cases g with
  | true =>
    go_wp2_with fail
    go_ret
    exact ⟨rfl, T2.out.bel⟩
  | false =>
    obtain ⟨hn30', htx⟩ := hg rfl
    have hn30 : n ≤ 30 := by have := HLN.out; omega
    have HTX := Lib.hid htx
    go_wp2_with fail
    refine (HG2.out w2 T2.out.bel).mono ?_
    rintro e w3 ⟨g, rfl, hg, hb3⟩
    have T3 := Lib.hid (T2.out.below hb3)
    clear hb3 T2 cO
    cases g with
    | true =>
      go_wp2_with fail
      go_ret
      exact ⟨rfl, T3.out.bel⟩
    | false =>
      obtain ⟨hn2', htx2⟩ := hg rfl
      have hn2 : n2 ≤ 2 := by have := HLN2.out; omega
      have HTX2 := Lib.hid htx2
      clear hn30' hn2' htx htx2
      go_wp2_with fail
      refine (HF.out w3).mono ?_
      rintro e w4 ⟨V, b, s, rfl, hv, hs, hb4, hV, hbb⟩
      go_wp2_with fail
      refine (HF.out w4).mono ?_
      rintro e w5 ⟨U, b2, u, rfl, hu, hsu, hb5, hU, hbb2⟩
      have T5 := Lib.hid ((T3.out.below hb4).below hb5)
      have HV0 := Lib.hid (hv.below hb5)
      have HU0 := Lib.hid hu
      have HCV0 := Lib.hid (hs.calm pl)
      have HCU0 := Lib.hid (hsu.calm pl)
      have HE0 := Lib.hid (hs.eqv.trans hsu.eqv.symm)
      have HSZ : Hid (w.heap.size + 2 ≤ w3.heap.size) := Lib.hid (by have := T3.out.lt 1 _ rfl; simp only at this; omega)
      have HDJ : Hid (∀ i ∈ V :: b.all, w3.heap.size ≤ i ∧ i < w4.heap.size) := Lib.hid (fun i hi => by
        rcases List.mem_cons.1 hi with rfl | hi
        · exact ⟨hV, hv.row.lt⟩
        · exact ⟨hbb i hi, hv.store.lt i hi⟩)
      have HDJ2 : Hid (∀ i ∈ U :: b2.all, w4.heap.size ≤ i ∧ i < w5.heap.size) := Lib.hid (fun i hi => by
        rcases List.mem_cons.1 hi with rfl | hi
        · exact ⟨hU, hu.row.lt⟩
        · exact ⟨hbb2 i hi, hu.store.lt i hi⟩)
      have H45 := Lib.hid hb5.size
      clear hv hs hb4 hV hbb hu hsu hb5 hU hbb2 T3
      go_wp2_with fail
      have S0 : Hid (Lo ((V :: b.all) ++ (U :: b2.all)) w5 [] w5) := Lib.hid (Lo.start w5 (fun k hk => by
        rcases List.mem_append.1 hk with h | h
        · have := (HDJ.out k h).2; have := H45.out; omega
        · exact (HDJ2.out k h).2))
      have HLG : Hid (∀ i ∈ (V :: b.all) ++ (U :: b2.all), w3.heap.size ≤ i) := Lib.hid (fun i hi => by
        rcases List.mem_append.1 hi with h | h
        · exact (HDJ.out i h).1
        · have := (HDJ2.out i h).1; have := (HDJ.out V (List.mem_cons_self ..)); omega)
      have HB : Hid (∀ W l, Lo ((V :: b.all) ++ (U :: b2.all)) w5 l W → Below w.heap.size w W) := Lib.hid (fun W l hl => Only.toBelowOld T5.out.bel hl.only (by have := T5.out.bel.size; omega) (fun i hi => by have := HLG.out i hi; have := HSZ.out; omega))
      have HRB : Hid (∀ W l, Lo ((V :: b.all) ++ (U :: b2.all)) w5 l W → FopRow W A n os) := Lib.hid (fun W l hl => HR.out.step (HB.out W l hl))
      have HRB2 : Hid (∀ W l, Lo ((V :: b.all) ++ (U :: b2.all)) w5 l W → FopRow W A2 n2 os2) := Lib.hid (fun W l hl => HR2.out.step (HB.out W l hl))
      have HO1 : Hid (∀ W l, Lo ((V :: b.all) ++ (U :: b2.all)) w5 l W → RowAt W w.heap.size [.slice A2 n2 c2] ∧ RowAt W (w.heap.size + 1) [.bool fl]) := Lib.hid (fun W l hl => ⟨(T5.out.get 0 _ rfl).only hl.only (fun q => by have := HLG.out _ q; have := HSZ.out; omega), (T5.out.get 1 _ rfl).only hl.only (fun q => by have := HLG.out _ q; have := HSZ.out; omega)⟩)
      have HVK : Hid (∀ (W W' : World) (s' : Sto), VolAt W V b s' 120 8 0 → Only (U :: b2.all) W W' → VolAt W' V b s' 120 8 0) := Lib.hid (fun W W' s' h ho => h.only ho (fun q => by have := (HDJ2.out _ q).1; have := (HDJ.out V (List.mem_cons_self ..)).2; omega) (fun i hi q => by have := (HDJ2.out _ q).1; have := (HDJ.out i (List.mem_cons_of_mem _ hi)).2; omega))
      have HUK : Hid (∀ (W W' : World) (u' : Sto), VolAt W U b2 u' 120 8 0 → Only (V :: b.all) W W' → VolAt W' U b2 u' 120 8 0) := Lib.hid (fun W W' u' h ho => h.only ho (fun q => by have := (HDJ.out _ q).2; have := (HDJ2.out U (List.mem_cons_self ..)).1; omega) (fun i hi q => by have := (HDJ.out _ q).2; have := (HDJ2.out i (List.mem_cons_of_mem _ hi)).1; omega))
      go_loopw [44] (fun i wr => ∃ (k : Nat) (s' u' : Sto), k ≤ n ∧ i = .int .i64 k ∧ Lo ((V :: b.all) ++ (U :: b2.all)) w5 [] wr ∧ Hid (VolAt wr V b s' 120 8 0) ∧ Hid (VolAt wr U b2 u' 120 8 0) ∧ Hid (Calm s' 120 8 k) ∧ Hid (Calm u' 120 8 k) ∧ Hid (Fs.Eqv 120 (nv s') (nv u'))) (fun i _ => n - (intOf i).toNat)
      case atStart => exact ⟨0, s, u, Nat.zero_le _, rfl, S0.out, HV0, HU0, HCV0, HCU0, HE0⟩
      case round =>
        clear S0 HV0 HU0 HCV0 HCU0 HE0
        obtain ⟨k, s', u', hk, rfl, hS, HV, HU, HCV, HCU, HE⟩ := hrel
        have S := Lib.hid hS
        clear hS
        by_cases hlt : k < n
        · obtain ⟨o, ho⟩ : ∃ o, os[k]? = some o := ⟨_, List.getElem?_eq_getElem (by rw [HLN.out]; exact hlt)⟩
          have HRO := Lib.hid (HRB.out _ _ S.out)
          obtain ⟨pb, poff, rfl, hpb, hpr⟩ := HRO.out.cells (by omega)
          have HPI := Lib.hid (hpr k o ho)
          have HT := Lib.hid (HTX.out o (List.mem_of_getElem? ho))
          clear hpr hpb ho
          have HDOV : Hid (∀ W, VolAt W V b s' 120 8 0 → Calls Tryz.prog 10 #[.pointer (some ⟨V, 0, none⟩), .agg (opL o).toArray] W fun e w' => ∃ er s2 a, StepTo 120 8 s' (Fs.opM 120 8 o) er s2 a ∧ e = .returned (.tuple #[.int .i64 (a.getD 0), .int .i64 er]) ∧ VolAt w' V b s2 120 8 0 ∧ Only (V :: b.all) W w') := Lib.hid (fun W hv => lawDo_any hv HCV.out.vs (by have := HCV.out.q; omega) o (by have := HT.out; omega))
          have HDOU : Hid (∀ W, VolAt W U b2 u' 120 8 0 → Calls Tryz.prog 10 #[.pointer (some ⟨U, 0, none⟩), .agg (opL o).toArray] W fun e w' => ∃ er s2 a, StepTo 120 8 u' (Fs.opM 120 8 o) er s2 a ∧ e = .returned (.tuple #[.int .i64 (a.getD 0), .int .i64 er]) ∧ VolAt w' U b2 s2 120 8 0 ∧ Only (U :: b2.all) W w') := Lib.hid (fun W hv => lawDo_any hv HCU.out.vs (by have := HCU.out.q; omega) o (by have := HT.out; omega))
          by_cases hq : o.k < 5
          · go_wp2_with (first
              | (with_reducible refine wpList_load_mid rfl 33 (.tmp 46) rfl pb (poff + k * 16) rfl (opL o) _ HPI.out Tryz.underlying33 rfl (by kernel_rfl) ?_)
              | ((with_reducible refine wpList_store_newrow (vs := opL o) opT ?_ (opL_one _) rfl (.tmp 12) (.tmp 47) rfl rfl ?_ ?_ ?_); (exact rfl); (exact rfl); (exact rfl); intro W4 hP hB2 hz2; have S2 := Lib.hid (S.out.made hP hB2 hz2); have HV2 := Lib.hid (HV.out.below hB2); have HU2 := Lib.hid (HU.out.below hB2); clear hP hB2 hz2; have c4 := (S2.out.get 0 _ rfl).cell 0 _ rfl)
              | (with_reducible refine wpList_load_rw opT (S2.out.get 0 _ rfl) rfl rfl (.tmp 12) rfl rfl ?_)
              | (with_reducible refine wpList_load_rw opT (S5.out.get 0 _ rfl) rfl rfl (.tmp 12) rfl rfl ?_)
              | (go_at_call 10; (with_reducible refine (HDOV.out _ HV2.out).mono ?_); rintro e w6 ⟨er, s2, a, hto, rfl, hv5, ho5⟩; have S5 := Lib.hid (S2.out.call ho5 (fun i hi => List.mem_append_left _ hi)); have HV5 := Lib.hid hv5; have HU5 := Lib.hid (HUK.out _ _ _ HU2.out ho5); have HTO := Lib.hid hto; clear ho5 hv5 hto HV2 HU2 S2 c4)
              | (go_at_call 10; (with_reducible refine (HDOU.out _ HU5.out).mono ?_); rintro e w7 ⟨er2, u2, a2, hto2, rfl, hv6, ho6⟩; have S6 := Lib.hid (S5.out.call ho6 (fun i hi => List.mem_append_right _ hi)); have HU6 := Lib.hid hv6; have HV6 := Lib.hid (HVK.out _ _ _ HV5.out ho6); have HTO2 := Lib.hid hto2; clear ho6 hv6 hto2))
            have HT2 := Lib.hid (HCV.out.two HCU.out (by omega) (by omega) HE.out (Fs.loc_op pl o) (op_cv HCV.out o HT.out) (op_cv HCU.out o HT.out) HTO.out HTO2.out)
            go_roundw
            case rel => exact ⟨k + 1, s2, u2, by omega, by go_num, S6.out.cut 0, HV6, HU6, Lib.hid HT2.out.1, Lib.hid HT2.out.2.1, Lib.hid HT2.out.2.2⟩
            case measure => simp [intOf]; omega
          · go_wp2_with (first
              | (with_reducible refine wpList_load_mid rfl 33 (.tmp 46) rfl pb (poff + k * 16) rfl (opL o) _ HPI.out Tryz.underlying33 rfl (by kernel_rfl) ?_)
              | ((with_reducible refine wpList_store_newrow (vs := opL o) opT ?_ (opL_one _) rfl (.tmp 12) (.tmp 47) rfl rfl ?_ ?_ ?_); (exact rfl); (exact rfl); (exact rfl); intro W4 hP hB2 hz2; have S2 := Lib.hid (S.out.made hP hB2 hz2); have HV2 := Lib.hid (HV.out.below hB2); have HU2 := Lib.hid (HU.out.below hB2); clear hP hB2 hz2; have c4 := (S2.out.get 0 _ rfl).cell 0 _ rfl))
            go_roundw
            case rel => exact ⟨k + 1, s', u', by omega, by go_num, S2.out.cut 0, HV2, HU2, Lib.hid ⟨HCV.out.vs, HCV.out.idle, by have := HCV.out.q; omega, HCV.out.lim⟩, Lib.hid ⟨HCU.out.vs, HCU.out.idle, by have := HCU.out.q; omega, HCU.out.lim⟩, HE⟩
            case measure => simp [intOf]; omega
        · obtain rfl : k = n := by omega
          have HIM : Hid (∀ (W : World) (z : Sto) (q : Nat), VolAt W V b z 120 8 0 → Calm z 120 8 q → Calls Tryz.prog 11 #[.pointer (some ⟨V, 0, none⟩)] W fun e w' => e = .returned (.string (strOf (Fs.imageF 120 8 (nv z)))) ∧ Below W.heap.size W w') := Lib.hid (fun W z q hv hc => image_any hv hc.vs)
          have HIU : Hid (∀ (W : World) (z : Sto) (q : Nat), VolAt W U b2 z 120 8 0 → Calm z 120 8 q → Calls Tryz.prog 11 #[.pointer (some ⟨U, 0, none⟩)] W fun e w' => e = .returned (.string (strOf (Fs.imageF 120 8 (nv z)))) ∧ Below W.heap.size W w') := Lib.hid (fun W z q hv hc => image_any hv hc.vs)
          obtain ⟨was, hwas⟩ : ∃ z, z = strOf (Fs.imageF 120 8 (nv s')) := ⟨_, rfl⟩
          have HWAS := Lib.hid hwas
          have HI1 := Lib.hid (HIM.out wr s' k HV.out HCV.out)
          rw [← hwas] at HI1
          clear hwas
          go_wp2_with fail
          refine HI1.out.mono ?_
          rintro e w6 ⟨rfl, hb6⟩
          have S6 := Lib.hid (S.out.below hb6)
          have HV6 := Lib.hid (HV.out.below hb6)
          have HU6 := Lib.hid (HU.out.below hb6)
          clear hb6 S HV HU HI1
          go_wp2_with fail
          have HD := do_any HV6.out HCV.out.vs (by have := HCV.out.q; omega) [] (by simp) (Fs.stepM 120 8 fl os2) (fun _ _ => True) (fun _ => True) (fun _ _ _ _ _ _ _ _ => trivial) (fun _ _ _ _ _ _ _ => trivial) 13 #[.pointer (some ⟨w.heap.size, 0, none⟩), .pointer (some ⟨w.heap.size + 1, 0, none⟩)] (fun args W => by simp [go_sem]) (fun B w7 hB hc ho => by
            have hvv := (HDJ.out V (List.mem_cons_self ..)).1
            have hbt := (HDJ.out b.t (List.mem_cons_of_mem _ b.t_mem)).1
            have hsz := HSZ.out
            obtain ⟨r1, r2⟩ := HO1.out _ _ S6.out
            exact clos_any hc ((HRB2.out _ _ S6.out).only0 HR2.out ho (fun i hi => by rw [List.mem_singleton] at hi; subst hi; omega)) (fun o ho => by have := HTX2.out o ho; omega) fl w.heap.size (w.heap.size + 1) (r1.only ho (by simp; omega)) (r2.only ho (by simp; omega)) (by omega) (by omega) HR2.out (by omega))
          refine HD.mono ?_
          rintro e w7 ⟨hst, hO7⟩
          obtain ⟨er, s3, a3, hto, rfl, hv7, _⟩ := hst.to
          obtain ⟨hdone, hcalm⟩ := Done.of HCV.out (by omega) (by have := HLN2.out; omega) HTX2.out hto
          have HDONE := Lib.hid hdone
          have HC3 := Lib.hid hcalm
          have S7 := Lib.hid (S6.out.call hO7 (fun i hi => by simp at hi; exact List.mem_append_left _ (by simpa using hi)))
          have HV7 := Lib.hid hv7
          have HU7 := Lib.hid (HUK.out _ _ _ HU6.out (hO7.mono (fun i hi => by simpa using hi)))
          have HL0 := Lib.hid (Lft.start (n := 120) (I := 8) (fl := fl) (os := os2) HE.out)
          have cO := (HO1.out _ _ S7.out).1.cell 0 _ rfl
          clear HD hst hto hv7 hdone hcalm hO7 S6 HV6 HU6
          go_wp2_with fail
          clear cO
          go_loopw [15, 65] (fun one i wr => ∃ (j : Nat) (u2 : Sto), j ≤ n2 ∧ one = .int .i64 0 ∧ i = .int .i64 j ∧ Lo ((V :: b.all) ++ (U :: b2.all)) w5 [] wr ∧ Hid (VolAt wr V b s3 120 8 0) ∧ Hid (VolAt wr U b2 u2 120 8 0) ∧ Hid (Calm u2 120 8 (k + j)) ∧ Hid (Lft 120 8 fl os2 (nv s') j (nv u2))) (fun _ i _ => n2 - (intOf i).toNat)
          case atStart => exact ⟨0, u', Nat.zero_le _, rfl, rfl, S7.out, HV7, HU7, HCU, HL0⟩
          case round =>
            clear S7 HV7 HU7 HL0
            obtain ⟨j, u2, hj, rfl, rfl, hS, HV, HU, HCU2, HL⟩ := hrel
            have S := Lib.hid hS
            clear hS
            by_cases hlt2 : j < n2
            · obtain ⟨o, ho⟩ : ∃ o, os2[j]? = some o := ⟨_, List.getElem?_eq_getElem (by rw [HLN2.out]; exact hlt2)⟩
              have HRO := Lib.hid (HRB2.out _ _ S.out)
              obtain ⟨pb, poff, rfl, hpb, hpr⟩ := HRO.out.cells (by omega)
              have HPI := Lib.hid (hpr j o ho)
              have HT := Lib.hid (HTX2.out o (List.mem_of_getElem? ho))
              have HOJ := Lib.hid ho
              clear hpr hpb ho
              have HDOU : Hid (∀ W, VolAt W U b2 u2 120 8 0 → Calls Tryz.prog 10 #[.pointer (some ⟨U, 0, none⟩), .agg (opL o).toArray] W fun e w' => ∃ er s2 a, StepTo 120 8 u2 (Fs.opM 120 8 o) er s2 a ∧ e = .returned (.tuple #[.int .i64 (a.getD 0), .int .i64 er]) ∧ VolAt w' U b2 s2 120 8 0 ∧ Only (U :: b2.all) W w') := Lib.hid (fun W hv => lawDo_any hv HCU2.out.vs (by have := HCU2.out.q; omega) o (by have := HT.out; omega))
              by_cases hq : 4 < o.k
              · go_wp2_with (first
                  | (with_reducible refine wpList_load_mid rfl 33 (.tmp 67) rfl pb (poff + j * 16) rfl (opL o) _ HPI.out Tryz.underlying33 rfl (by kernel_rfl) ?_)
                  | ((with_reducible refine wpList_store_newrow (vs := opL o) opT ?_ (opL_one _) rfl (.tmp 17) (.tmp 68) rfl rfl ?_ ?_ ?_); (exact rfl); (exact rfl); (exact rfl); intro W4 hP hB2 hz2; have S2 := Lib.hid (S.out.made hP hB2 hz2); have HV2 := Lib.hid (HV.out.below hB2); have HU2 := Lib.hid (HU.out.below hB2); clear hP hB2 hz2; have c4 := (S2.out.get 0 _ rfl).cell 0 _ rfl))
                go_roundw
                case rel => exact ⟨j + 1, u2, by omega, rfl, by go_num, S2.out.cut 0, HV2, HU2, Lib.hid ⟨HCU2.out.vs, HCU2.out.idle, by have := HCU2.out.q; omega, HCU2.out.lim⟩, Lib.hid (HL.out.skip HOJ.out hq)⟩
                case measure => simp [intOf]; omega
              · go_wp2_with (first
                  | (with_reducible refine wpList_load_mid rfl 33 (.tmp 67) rfl pb (poff + j * 16) rfl (opL o) _ HPI.out Tryz.underlying33 rfl (by kernel_rfl) ?_)
                  | ((with_reducible refine wpList_store_newrow (vs := opL o) opT ?_ (opL_one _) rfl (.tmp 17) (.tmp 68) rfl rfl ?_ ?_ ?_); (exact rfl); (exact rfl); (exact rfl); intro W4 hP hB2 hz2; have S2 := Lib.hid (S.out.made hP hB2 hz2); have HV2 := Lib.hid (HV.out.below hB2); have HU2 := Lib.hid (HU.out.below hB2); clear hP hB2 hz2; have c4 := (S2.out.get 0 _ rfl).cell 0 _ rfl)
                  | (with_reducible refine wpList_load_rw opT (S2.out.get 0 _ rfl) rfl rfl (.tmp 17) rfl rfl ?_))
                refine (HDOU.out _ HU2.out).mono ?_
                rintro e w8 ⟨er2, u3, a2, hto2, rfl, hv8, ho8⟩
                have S8 := Lib.hid (S2.out.call ho8 (fun i hi => List.mem_append_right _ hi))
                have HU8 := Lib.hid hv8
                have HV8 := Lib.hid (HVK.out _ _ _ HV2.out ho8)
                obtain ⟨hcu, hres⟩ := HCU2.out.pure (by omega) (op_cv HCU2.out o HT.out) hto2
                have HCU3 := Lib.hid hcu
                clear hcu ho8 hv8 HV2 HU2 S2 c4
                rcases hres with ⟨x, V9, L9, e9, rfl, hout⟩ | ⟨V9, L9, e9, h0, rfl⟩
                · have HL9 := Lib.hid (HL.out.ok pl HOJ.out e9 hout)
                  clear e9 hout hto2
                  go_wp2_with fail
                  go_roundw
                  case rel => exact ⟨j + 1, u3, by omega, rfl, by go_num, S8.out.cut 0, HV8, HU8, HCU3, HL9⟩
                  case measure => simp [intOf]; omega
                · obtain ⟨e1, e2⟩ := HDONE.out.bad (HL.out.bad pl HOJ.out e9)
                  subst e1
                  have HI2 := Lib.hid (fun (W : World) (hv : VolAt W V b s3 120 8 0) => HIM.out W s3 _ hv HC3.out)
                  rw [e2, ← HWAS.out] at HI2
                  clear e9 e2 hto2
                  go_wp2_with (go_at_call 11; (with_reducible refine (HI2.out _ HV8.out).mono ?_); rintro e w9 ⟨rfl, hb9⟩)
                  go_ret
                  exact ⟨rfl, (HB.out _ _ S8.out).trans (hb9.mono (HB.out _ _ S8.out).size)⟩
            · obtain rfl : j = n2 := by omega
              have HFIN := Lib.hid (HL.out.fin (by have := HLN2.out; omega))
              have cX := (HO1.out _ _ S.out).2.cell 0 _ rfl
              cases fl with
              | true =>
                obtain ⟨e1, e2⟩ := HDONE.out.bad (HFIN.out.1 rfl)
                subst e1
                have HI2 := Lib.hid (fun (W : World) (hv : VolAt W V b s3 120 8 0) => HIM.out W s3 _ hv HC3.out)
                rw [e2, ← HWAS.out] at HI2
                clear e2
                go_wp2_with (go_at_call 11; (with_reducible refine (HI2.out _ HV.out).mono ?_); rintro e w9 ⟨rfl, hb9⟩)
                go_ret
                exact ⟨rfl, (HB.out _ _ S.out).trans (hb9.mono (HB.out _ _ S.out).size)⟩
              | false =>
                obtain ⟨L9, V9, e9, E9⟩ := HFIN.out.2 rfl
                obtain ⟨e1, e2⟩ := HDONE.out.good e9 E9
                subst e1
                have HI2 := Lib.hid (fun (W : World) (hv : VolAt W V b s3 120 8 0) => HIM.out W s3 _ hv HC3.out)
                have HI3 := Lib.hid (fun (W : World) (hv : VolAt W U b2 u2 120 8 0) => HIU.out W u2 _ hv HCU2.out)
                rw [e2] at HI2
                obtain ⟨is, his⟩ : ∃ z, z = strOf (Fs.imageF 120 8 (nv u2)) := ⟨_, rfl⟩
                rw [← his] at HI2 HI3
                clear e2 e9 E9 his
                go_wp2_with (first
                  | (go_at_call 11; (with_reducible refine (HI2.out _ HV.out).mono ?_); rintro e w9 ⟨rfl, hb9⟩; have HU9 := Lib.hid (HU.out.below hb9); have S9 := Lib.hid (S.out.below hb9))
                  | (go_at_call 11; (with_reducible refine (HI3.out _ HU9.out).mono ?_); rintro e w10 ⟨rfl, hb10⟩))
                go_ret
                exact ⟨rfl, (HB.out _ _ S9.out).trans (hb10.mono (HB.out _ _ S9.out).size)⟩
set_option maxRecDepth 100000 in
theorem lifted (os : Os) (started : os.Started) (H : Type) (enc : TypeId × Value → H) :
    ReturnsInHanded {} Tryz.checked os 3 .any (Rows.fileStepsSpec.pre6 enc Tryz.prog Tryz.f3 Rows.fileStepsRow.domain false) (Rows.fileStepsSpec.post enc Tryz.prog Tryz.f3 false true false false) := by
  refine returnsInHanded_of_change (C := Tryz.checked) own started (by kernel_rfl) Tryz.func3
    (ChangeSpec.witness6 (enc := enc) (C := Tryz.checked) false ⟨#[], #[.slice none 0 0, .slice none 0 0, .bool false], []⟩ 8 (by kernel_rfl) (by kernel_rfl) (by kernel_rfl) (by kernel_rfl)) ?_
  intro W base args ds gs before hval0 hW hcnd _
  have hval : ∀ (j : Nat) t v, Tryz.f3.params[j]? = some t → args[j]? = some v → Value.okWide Tryz.prog W .any base t v := hval0
  have hW' := hW
  obtain ⟨p, q, hA0, hV, rfl, hfz, hnd⟩ := hW
  have hA : DataW.TrodAll enc Tryz.prog W 0 (fun _ => true) true Tryz.f3.params.toList args.toList ds p := hA0
  rw [Tryz.params3] at hA hval
  obtain ⟨v0, vs0, d0, ds0, p0, q0, hargs, rfl, rfl, h0, r0⟩ := trodAll_cons hA
  obtain ⟨v1, vs1, d1, ds1, p1, q1, rfl, rfl, rfl, h1, r1⟩ := trodAll_cons r0
  obtain ⟨v2, vs2, d2, ds2, p2, q2, rfl, rfl, rfl, h2, r2⟩ := trodAll_cons r1
  obtain ⟨rfl, rfl, rfl⟩ := trodAll_nil r2
  obtain rfl : args = #[v0, v1, v2] := by cases args; simp_all
  obtain ⟨rfl, rfl⟩ := trodVars_none hV
  have k0 := h0
  have lt0 : ∀ x ∈ p0, x.block < W.heap.size := by obtain ⟨m, hm⟩ := k0; exact DataW.trod_lt m _ _ _ hm
  have k1 := h1
  have lt1 : ∀ x ∈ p1, x.block < W.heap.size := by obtain ⟨m, hm⟩ := k1; exact DataW.trod_lt m _ _ _ hm
  have k2 := h2
  have lt2 : ∀ x ∈ p2, x.block < W.heap.size := by obtain ⟨m, hm⟩ := k2; exact DataW.trod_lt m _ _ _ hm
  obtain ⟨A0, n0, c0, os0, rfl, w0⟩ := open_fops (hval 0 22 v0 rfl rfl) h0
  obtain ⟨A1, n1, c1, os1, rfl, w1⟩ := open_fops (hval 1 22 v1 rfl rfl) h1
  obtain ⟨x2, rfl, ed2, ep2⟩ := open_bool Tryz.underlying4 (hval 2 4 v2 rfl rfl) h2
  clear hA0 hval0
  refine (walk A0 n0 c0 os0 A1 n1 c1 os1 x2 W w0 w1).mono fun e W' ⟨he, bel⟩ => ?_
  subst he
  exact ⟨_, rfl, _, _, _, [], _, [], hW', trodAll_mk1 (shut_bool Tryz.underlying4 _), (trodAll_cons_mk (Below.trod laidOut (by kernel_rfl) (of_decide_eq_true (by kernel_rfl)) k0 bel lt0) (trodAll_cons_mk (Below.trod laidOut (by kernel_rfl) (of_decide_eq_true (by kernel_rfl)) k1 bel lt1) (trodAll_cons_mk (Below.trod laidOut (by kernel_rfl) (of_decide_eq_true (by kernel_rfl)) k2 bel lt2) trodAll_mk0))), rfl, bel.frame _, fun h => by cases h⟩
theorem over : Rows.fileStepsRow.holds Tryz.pinned (OpenSpec.ofChange Rows.fileStepsSpec) :=
  OpenClaim.holds_of_wide 3 Tryz.f3 rfl rfl rfl rfl rfl rfl rfl ⟨rfl, rfl, rfl, rfl, rfl⟩ rfl rfl rfl rfl rfl (by kernel_rfl) Tryz.func3 (by kernel_rfl)
    (of_decide_eq_true (by kernel_rfl)) (by unfold Func.isWrapper; first | (rw [if_pos (by decide +kernel)]; kernel_rfl) | (rw [if_neg (by decide +kernel)]; exact ⟨rfl, rfl⟩))
    (fun os started H enc _ => lifted os started H enc)
/-- THE STATEMENT -/
theorem proved : Rows.FileStepsSaid := over
#print axioms proved
end Go.Proofs.YtncmihikpcdgoaaGreat.fileSteps
