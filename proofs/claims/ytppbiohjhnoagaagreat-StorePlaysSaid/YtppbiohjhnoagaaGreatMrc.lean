/-
  The contract of the document's own Commit, of changes that may be written.
-/
import Derived.Test.YtppbiohjhnoagaaGreatMrb
import Derived.Test.YtppbiohjhnoagaaGreatMjd
import Derived.BigQuiet
import Derived.Deep.QuietTactic
import Derived.Test.YtppbiohjhnoagaaGreatMsb
namespace Go.Proofs.YtppbiohjhnoagaaGreat
open Go.RowKit
open Dk (zeros zeros_length)
open Hd (Head rightB pageH)
open Jn (Chg quietH liveH)

structure RcI (w : World) (r ra rb rc j A Z : Nat) (P : Option Addr) (cs : List Chg) (q : Int) (o : Bool) (s : Dk.St) (W : World) : Prop where
  disk : RefAt W r ra rb rc s
  jr : JAt W j r A Z q o
  row : ChAt W P [r, ra, rb, rc, j] cs
  far : j ∉ [r, ra, rb, rc]
  only : Only [r, ra, rb, rc, j] w W
theorem RcI.below {w : World} {r ra rb rc j A Z : Nat} {P : Option Addr} {cs : List Chg} {q : Int} {o : Bool} {s : Dk.St} {W W' : World} (h : RcI w r ra rb rc j A Z P cs q o s W) (hb : Below W.heap.size W W') : RcI w r ra rb rc j A Z P cs q o s W' :=
  ⟨h.disk.below hb, h.jr.below hb, h.row.below hb, h.far, h.only.trans (Only.below hb)⟩
theorem RcI.call {w : World} {r ra rb rc j A Z : Nat} {P : Option Addr} {cs : List Chg} {q q' : Int} {o o' : Bool} {s s' : Dk.St} {W W' : World} (h : RcI w r ra rb rc j A Z P cs q o s W) {L : List Nat} (hd : RefAt W' r ra rb rc s') (hj : JAt W' j r A Z q' o') (ho : Only L W W') (hL : ∀ x ∈ L, x ∈ [r, ra, rb, rc, j]) : RcI w r ra rb rc j A Z P cs q' o' s' W' :=
  ⟨hd, hj, h.row.only ho hL, h.far, h.only.trans (ho.mono hL)⟩
theorem RcI.no {w : World} {r ra rb rc j A Z : Nat} {b off : Nat} {cs : List Chg} {q : Int} {o : Bool} {s : Dk.St} {W : World} (h : RcI w r ra rb rc j A Z (some ⟨b, off, none⟩) cs q o s W) {k : Nat} {x : Chg} (hx : cs[k]? = some x) : W.cell? ⟨b, off + k * 65, none⟩ = some (.int .i64 x.no) := by
  obtain ⟨b', off', e, _, _, hc⟩ := h.row (by have := (List.getElem?_eq_some_iff.1 hx).1; omega)
  injection e with e
  injection e with e1 e2
  subst e1; subst e2
  exact (chg_cells (hc k x hx)).1
theorem RcI.setOver {w : World} {r ra rb rc j A Z : Nat} {P : Option Addr} {cs : List Chg} {q : Int} {o : Bool} {s : Dk.St} {W : World} (h : RcI w r ra rb rc j A Z P cs q o s W) (v : Bool) : RcI w r ra rb rc j A Z P cs q v s (W.setCell ⟨j, 4, none⟩ (.bool v)) :=
  have ho : Only [j] W (W.setCell ⟨j, 4, none⟩ (.bool v)) := (Only.refl [j] W).setCell (p := ⟨j, 4, none⟩) (by simp) _
  have hf := h.far
  ⟨h.disk.only ho (fun e => hf (by simp at e ⊢; omega)) (fun e => hf (by simp at e ⊢; omega)) (fun e => hf (by simp at e ⊢; omega)) (fun e => hf (by simp at e ⊢; omega)), h.jr.setOver v, h.row.only ho (by simp), h.far, h.only.trans (ho.mono (by simp))⟩
/-- what Commit comes to -/
def RcEnd (w : World) (r ra rb rc j A Z : Nat) (P : Option Addr) (cs : List Chg) (q : Int) (s : Dk.St) (n : Nat) (R : Dk.St × Int) (e : Ending) (w' : World) : Prop :=
  (n = 0 ∧ e = .returned (.int .i64 0) ∧ RcI w r ra rb rc j A Z P cs q false s w') ∨
  (1 ≤ n ∧ ((R.2 = 0 ∧ e = .returned (.int .i64 0) ∧ RcI w r ra rb rc j A Z P cs (q + 2) false R.1 w') ∨ (R.2 ≠ 0 ∧ e = .returned (.int .i64 5) ∧ ∃ q', RcI w r ra rb rc j A Z P cs q' true R.1 w')))
set_option maxRecDepth 100000 in
set_option maxHeartbeats 4000000 in
theorem rcommit_any {w : World} {r ra rb rc j A Z : Nat} {q : Int} {s : Dk.St} (h : RefAt w r ra rb rc s) (hj : JAt w j r A Z q false) (hjd : j ∉ [r, ra, rb, rc]) (hA : A ≤ 900) (h3 : 3 ≤ Z) (h20 : Z ≤ 20) (P : Option Addr) (c : Nat) (cs : List Chg) (hrow : ChAt w P [r, ra, rb, rc, j] cs)
    (hm : ∀ x ∈ cs, otherB s.last.length A Z x.no = true ∧ x.page.length = 64) (hpw : cs.Pairwise (fun x y => x.no < y.no)) (hl : cs.length ≤ Z - 2) (hq0 : 0 ≤ q) (hq1 : q < 4294967290) (R : Dk.St × Int) (hR : Jn.runs s [Jn.layAt (A + 1) (Jn.layN cs), [⟨(A : Int), pageH (liveH q cs)⟩], cs, [⟨(A : Int), pageH (quietH (q + 1))⟩]] = R) :
    Calls Tryz.prog 41 #[.pointer (some ⟨j, 0, none⟩), .slice P cs.length c] w (RcEnd w r ra rb rc j A Z P cs q s cs.length R) := by
  have HS : Hid (RcI w r ra rb rc j A Z P cs q false s w) := Lib.hid ⟨h, hj, hrow, hjd, Only.refl _ _⟩
  have HM := Lib.hid hm
  have HPW := Lib.hid hpw
  have HR := Lib.hid hR
  have hz9 : Z ≤ 900 := by omega
  clear h hj hrow hjd hm hpw hR
  obtain ⟨n, hn⟩ : ∃ n, cs.length = n := ⟨_, rfl⟩
  have HN := Lib.hid hn
  rw [hn] at hl ⊢
  clear hn
  have c4 := HS.out.jr.c4
  go_enter Tryz.func41, Tryz.ntmps41
  go_wp2_with fail
  clear c4
  go_loopw [5] (fun i wr => ∃ k : Nat, k ≤ n ∧ i = .int .i64 k ∧ RcI w r ra rb rc j A Z P cs q false s wr) (fun i _ => n - (intOf i).toNat)
  case atStart => exact ⟨0, Nat.zero_le _, rfl, HS.out⟩
  case round =>
    obtain ⟨k, hk, rfl, hI⟩ := hrel
    have HI := Lib.hid hI
    clear hI HS
    by_cases hlt : k < n
    · obtain ⟨x, hxk⟩ : ∃ x, cs[k]? = some x := ⟨_, List.getElem?_eq_getElem (by rw [HN.out]; exact hlt)⟩
      obtain ⟨b, off, rfl, _, _, _⟩ := HI.out.row (by rw [HN.out]; omega)
      have HX := Lib.hid hxk
      have hno := HI.out.no hxk
      have HMX := Lib.hid (HM.out x (List.mem_of_getElem? hxk)).1
      have hlt' : (k : Int) < (n : Int) := by omega
      clear hxk
      go_wp2_with fail
      refine (rmay_any HI.out.disk HI.out.jr hA hz9 x.no).mono ?_
      rintro e w1 ⟨rfl, hb1⟩
      have HI1 := Lib.hid (HI.out.below hb1)
      rw [HMX.out]
      clear hb1 HI hno
      rename World => wo
      go_wp2_with fail
      go_loopw [6] (fun v wr => ∃ t : Nat, t ≤ k ∧ v = .int .i64 t ∧ RcI w r ra rb rc j A Z (some ⟨b, off, none⟩) cs q false s wr) (fun v _ => k - (intOf v).toNat)
      case atStart => exact ⟨0, Nat.zero_le _, rfl, HI1.out⟩
      case round =>
        obtain ⟨t, ht, rfl, hI2⟩ := hrel
        have HI2 := Lib.hid hI2
        clear hI2 HI1
        by_cases htk : t < k
        · obtain ⟨y, hyt⟩ : ∃ y, cs[t]? = some y := ⟨_, List.getElem?_eq_getElem (by rw [HN.out]; omega)⟩
          have n1 := HI2.out.no hyt
          have n2 := HI2.out.no HX.out
          have hne : (y.no == x.no) = false := by
            have h1 := List.getElem?_eq_some_iff.1 hyt
            have h2 := List.getElem?_eq_some_iff.1 HX.out
            have := List.pairwise_iff_getElem.1 HPW.out t k h1.1 h2.1 htk
            rw [h1.2, h2.2] at this
            simp; omega
          have htk' : (t : Int) < (k : Int) := by omega
          have htn' : (t : Int) < (n : Int) := by omega
          clear hyt
          go_wp2_with fail
          go_quiet (fail)
          have HI3 := Lib.hid (HI2.out.below (W' := wr.drewN nq) ⟨rfl, rfl, rfl, Nat.le_refl _, fun _ _ => rfl⟩)
          go_wp2_with fail
          go_roundw
          case rel => exact ⟨t + 1, by omega, by go_num, HI3.out⟩
          case measure => simp [intOf]; omega
        · obtain rfl : t = k := by omega
          have htt : ¬ ((t : Int) < (t : Int)) := by omega
          go_wp2_with fail
          go_roundw
          case rel => exact ⟨t + 1, by omega, by go_num, HI2.out⟩
          case measure => simp [intOf]; omega
    · obtain rfl : k = n := by omega
      have hkk : ¬ ((k : Int) < (k : Int)) := by omega
      have c2 := HI.out.jr.c2
      have HRM : Hid (Calls Tryz.prog 33 #[.int .i64 (Z : Int)] wr fun e w' => e = .returned (.int .i64 ((Z - 2 : Nat) : Int)) ∧ wr = w') := Lib.hid (by
        have := rroom_any (Z : Int) wr
        rwa [rN_fit Z h3 h20 512 (by omega)] at this)
      go_wp2_with fail
      refine HRM.out.mono ?_
      rintro e w1 ⟨rfl, rfl⟩
      have hkr : ¬ (((Z - 2 : Nat) : Int) < (k : Int)) := by omega
      clear HRM c2
      by_cases h0 : k = 0
      · subst h0
        go_wp2_with fail
        go_ret
        exact Or.inl ⟨rfl, rfl, HI.out⟩
      · have hk0 : ¬ ((k : Int) = 0) := by omega
        go_wp2_with fail
        have HRW : Hid (ChAt wr P [] cs) := Lib.hid (HI.out.row.mono (by simp))
        have HPG : Hid (∀ x ∈ cs, x.page.length = 64) := Lib.hid (fun x hx => (HM.out x hx).2)
        have HLY := Lib.hid (rlay_any P c cs HRW.out HPG.out (by rw [HN.out]; omega) (by rw [HN.out]; omega))
        have HLP : Hid (∀ p ∈ Jn.layN cs, p.length = 64) := Lib.hid (Jn.layN_pages HPG.out)
        have HLL : Hid ((Jn.layN cs).length = 1 + k) := Lib.hid (by rw [Jn.layN_length, HN.out])
        have HSB := Lib.hid (Jn.sumN_bd (Jn.layN cs))
        have HLH : Hid (liveH q cs = ⟨q, true, (k : Int), Jn.sumN (Jn.layN cs)⟩) := Lib.hid (by rw [← HN.out]; rfl)
        rw [HN.out] at HLY
        generalize Jn.layN cs = ps at HLY HLP HLL HSB HLH HR
        refine HLY.out.mono ?_
        rintro e w2 ⟨lb, rfl, hr2, hl2, hl2', hB2⟩
        have HI2 := Lib.hid (HI.out.below hB2)
        have HPS : Hid (PgAt w2 (some ⟨lb, 0, none⟩) [r, ra, rb, rc, j] ps) := Lib.hid (hr2.slice (by have := HI.out.disk.rlt; have := HI.out.disk.alt; have := HI.out.disk.blt; have := HI.out.disk.clt; have := HI.out.jr.lt; simp; omega))
        have c1 := HI2.out.jr.c1
        have hA1 : IntKind.i64.wrap ((A : Int) + 1) = (A : Int) + 1 := IntWalk.i64_in _ (by omega)
        clear hr2 hl2 hl2' hB2 HLY HI HRW
        have HPT := Lib.hid (rput_any HI2.out.disk HI2.out.jr HI2.out.far (A + 1) (some ⟨lb, 0, none⟩) (1 + k) ps (HPS.out.mono (by simp)) HLP.out (by rw [HLL.out]; omega) (by omega))
        rw [HLL.out, show ((A + 1 : Nat) : Int) = (A : Int) + 1 by omega] at HPT
        go_wp2_with fail
        refine HPT.out.mono ?_
        rintro e w3 ⟨rfl, hd3, hj3, ho3⟩
        have HI3 := Lib.hid (HI2.out.call hd3 hj3 ho3 (fun x hx => by simp at hx ⊢; omega))
        have HPS3 := Lib.hid (HPS.out.only ho3 (fun x hx => by simp at hx ⊢; omega))
        clear hd3 hj3 ho3 HPT HI2 HPS c1
        have hk1 : 1 ≤ k := by omega
        by_cases hE1 : (Jn.runW s (Jn.layAt (A + 1) ps)).2 = 0
        · have HR1 : Hid (R = Jn.runs (Jn.runW s (Jn.layAt (A + 1) ps)).1 [[⟨(A : Int), pageH (liveH q cs)⟩], cs, [⟨(A : Int), pageH (quietH (q + 1))⟩]]) := Lib.hid (by rw [← HR.out, runs_ok hE1])
          rw [decide_eq_true hE1]
          clear hE1 HR
          generalize (Jn.runW s (Jn.layAt (A + 1) ps)).1 = s1 at HI3 HR1
          rw [HLH.out] at HR1
          have HTO := Lib.hid (rtotal_any (some ⟨lb, 0, none⟩) (1 + k) ps w3 (HPS3.out.mono (by simp)) HLP.out (by rw [HLL.out]; omega))
          rw [HLL.out] at HTO
          go_wp2_with fail
          refine HTO.out.mono ?_
          rintro e w4 ⟨rfl, hb4⟩
          have HI4 := Lib.hid (HI3.out.below hb4)
          clear hb4 HTO HPS3 HI3
          generalize Jn.sumN ps = sm at HSB HR1 HLH ⊢
          have HMK := Lib.hid (rmark_any HI4.out.jr HI4.out.disk HI4.out.far hA true (k : Int) sm (Jn.live_right hq0 (by omega) hk1 (by omega)) HSB.out.1 HSB.out.2 hq0 (by omega))
          generalize hX2 : Jn.runW s1 [⟨(A : Int), pageH ⟨q, true, (k : Int), sm⟩⟩] = X2 at HMK
          have HX2 := Lib.hid hX2
          clear hX2
          obtain ⟨s2, E2⟩ := X2
          simp only at HMK
          go_wp2_with fail
          refine HMK.out.mono ?_
          rintro e w5 ⟨rfl, hd5, ⟨q5, hj5, hq5⟩, ho5⟩
          have HI5 := Lib.hid (HI4.out.call hd5 hj5 ho5 (fun x hx => by simp at hx ⊢; omega))
          clear hd5 hj5 ho5 HMK HI4
          by_cases hE2 : E2 = 0
          · have HR2 : Hid (R = Jn.runs s2 [cs, [⟨(A : Int), pageH (quietH (q + 1))⟩]]) := Lib.hid (by rw [HR1.out, runs_ok (by rw [HX2.out]; exact hE2), HX2.out])
            have hq5' := hq5 hE2
            subst hq5'
            rw [decide_eq_true hE2]
            clear hE2 HR1 HX2 hq5
            have HHM := Lib.hid (rhome_any HI5.out.disk HI5.out.jr HI5.out.far P c cs (HI5.out.row.mono (by simp)) HPG.out (by rw [HN.out]; omega))
            rw [HN.out] at HHM
            go_wp2_with fail
            refine HHM.out.mono ?_
            rintro e w6 ⟨rfl, hd6, hj6, ho6⟩
            have HI6 := Lib.hid (HI5.out.call hd6 hj6 ho6 (fun x hx => by simp at hx ⊢; omega))
            clear hd6 hj6 ho6 HHM HI5
            by_cases hE3 : (Jn.runW s2 cs).2 = 0
            · have HR3 : Hid (R = Jn.runW (Jn.runW s2 cs).1 [⟨(A : Int), pageH ⟨q + 1, false, 0, 0⟩⟩]) := Lib.hid (by rw [HR2.out, runs_ok hE3, runs_one]; rfl)
              rw [decide_eq_true hE3]
              clear hE3 HR2
              generalize (Jn.runW s2 cs).1 = s3 at HI6 HR3
              have HMQ := Lib.hid (rmark_any HI6.out.jr HI6.out.disk HI6.out.far hA false 0 0 (Jn.quietH_right (by omega) (by omega)) (Int.le_refl _) (by omega) (by omega) (by omega))
              rw [← HR3.out] at HMQ
              clear HR3
              go_wp2_with fail
              refine HMQ.out.mono ?_
              rintro e w7 ⟨rfl, hd7, ⟨q7, hj7, hq7⟩, ho7⟩
              have HI7 := Lib.hid (HI6.out.call hd7 hj7 ho7 (fun x hx => by simp at hx ⊢; omega))
              clear hd7 hj7 ho7 HMQ HI6
              have f4 := HI7.out.jr.f 4 (by omega)
              have c4 := HI7.out.jr.c4
              by_cases hE4 : R.2 = 0
              · have hq7' := hq7 hE4
                have HE := Lib.hid hE4
                subst hq7'
                rw [decide_eq_true hE4]
                clear hE4 hq7
                have HI8 := Lib.hid (HI7.out.setOver false)
                go_wp2_with fail
                go_ret
                refine Or.inr ⟨hk1, Or.inl ⟨HE.out, rfl, ?_⟩⟩
                rw [show q + 2 = q + 1 + 1 by omega]
                exact HI8.out
              · have HE := Lib.hid hE4
                rw [decide_eq_false hE4]
                clear hE4 hq7
                have HI8 := Lib.hid (HI7.out.setOver true)
                go_wp2_with fail
                go_ret
                exact Or.inr ⟨hk1, Or.inr ⟨HE.out, rfl, _, HI8.out⟩⟩
            · have HR3 : Hid (R = Jn.runW s2 cs) := Lib.hid (by rw [HR2.out, runs_bad hE3])
              rw [← HR3.out] at HI6
              have HE : Hid (R.2 ≠ 0) := Lib.hid (by rw [HR3.out]; exact hE3)
              have f4 := HI6.out.jr.f 4 (by omega)
              have c4 := HI6.out.jr.c4
              rw [decide_eq_false hE3]
              clear hE3 HR2 HR3
              have HI8 := Lib.hid (HI6.out.setOver true)
              go_wp2_with fail
              go_ret
              exact Or.inr ⟨hk1, Or.inr ⟨HE.out, rfl, _, HI8.out⟩⟩
          · have HR2 : Hid (R = (s2, E2)) := Lib.hid (by rw [HR1.out, runs_bad (by rw [HX2.out]; exact hE2), HX2.out])
            have HE : Hid (R.2 ≠ 0) := Lib.hid (by rw [HR2.out]; exact hE2)
            have HI5' : Hid (RcI w r ra rb rc j A Z P cs q5 false R.1 w5) := Lib.hid (by rw [HR2.out]; exact HI5.out)
            have f4 := HI5.out.jr.f 4 (by omega)
            have c4 := HI5.out.jr.c4
            rw [decide_eq_false hE2]
            clear hE2 HR1 HR2 HX2 hq5 HI5
            have HI8 := Lib.hid (HI5'.out.setOver true)
            go_wp2_with fail
            go_ret
            exact Or.inr ⟨hk1, Or.inr ⟨HE.out, rfl, _, HI8.out⟩⟩
        · have HR1 : Hid (R = Jn.runW s (Jn.layAt (A + 1) ps)) := Lib.hid (by rw [← HR.out, runs_bad hE1])
          rw [← HR1.out] at HI3
          have HE : Hid (R.2 ≠ 0) := Lib.hid (by rw [HR1.out]; exact hE1)
          have f4 := HI3.out.jr.f 4 (by omega)
          have c4 := HI3.out.jr.c4
          rw [decide_eq_false hE1]
          clear hE1 HR HR1 HPS3
          have HI8 := Lib.hid (HI3.out.setOver true)
          go_wp2_with fail
          go_ret
          exact Or.inr ⟨hk1, Or.inr ⟨HE.out, rfl, _, HI8.out⟩⟩
end Go.Proofs.YtppbiohjhnoagaaGreat

/-
  The document's own changes in memory: loaded, stored, built, appended; pages appended.
-/
namespace Go.Proofs.YtppbiohjhnoagaaGreat
open Go.RowKit
open Dk (zeros zeros_length)
open Jn (Chg)

set_option maxRecDepth 100000 in
theorem rchg_info : (Tryz.prog.info? 83).map (·.size) = some 65 := by kernel_rfl
set_option maxRecDepth 100000 in
theorem wpList_load_rchg {ops : Array Oper} {rest : List Oper} {op : Oper} {a : Act} {Q : Exit → Act → World → Prop} {w : World} {b o : Nat} {c : Chg} (hr : w.rangeAt b o (chgVals c)) (hp : c.page.length = 64) (hgd : op.guard = none) (x : Operand) (ho : op.op = .load 83 x)
    (hx : a.eval x = .pointer (some ⟨b, o, none⟩)) (h : wpList Tryz.prog ops Q rest (a.put op.dst (chgV c)) w) : wpList Tryz.prog ops Q (op :: rest) a w :=
  wpList_load_mid hgd 83 x ho b o hx (chgVals c) _ hr Tryz.underlying83 rfl (by rw [rchg_info, chgVals_length hp]) h
set_option maxRecDepth 100000 in
theorem wpList_store_newrchg {ops : Array Oper} {rest : List Oper} {op : Oper} {a : Act} {Q : Exit → Act → World → Prop} {w : World} {Z : Array Value} {t : TypeId} {c : Chg} (hp : c.page.length = 64) (hgd : op.guard = none) (x y : Operand) (ho : op.op = .store 83 x y)
    (hx : a.eval x = .pointer (some ⟨w.heap.size, 0, none⟩)) (hy : a.eval y = chgV c) (hZ : Z.size = 65)
    (h : ∀ W2, ChVar W2 w.heap.size c → Below w.heap.size w W2 → W2.heap.size = w.heap.size + 1 → wpList Tryz.prog ops Q rest (a.put op.dst undef) W2) :
    wpList Tryz.prog ops Q (op :: rest) a (w.alloc (.cells Z t)) := by
  have hlen : (chgVals c).toArray.size = 65 := by rw [List.size_toArray, chgVals_length hp]
  have ht : (w.alloc (.cells Z t)).there w.heap.size 0 65 := there_new w Z t _ (by omega)
  refine wpList_store_mid hgd 83 x y ho w.heap.size 0 (chgVals c).toArray hx hy (by rw [hlen]; exact ht) (by rw [rchg_info, hlen]) (all_oneCell_toArray (chgVals_one c)) (h _ ?_ ?_ ?_)
  · exact ⟨World.rangeAt_setCells_same _ _ _ _ (by rw [List.toList_toArray, chgVals_length hp]; exact ht), World.there_setCells (by rw [chgVals_length hp]; exact ht) _ _ _⟩
  · exact below_setCells _ (Nat.le_refl _) _ _ _ ((Below.refl _ _).alloc (Nat.le_refl _) _)
  · rw [heap_setCells]; simp
set_option maxRecDepth 100000 in
theorem zeroRchg (w : World) : (zeroValue 83).run Tryz.prog w = .ok (.agg chgZero) w := by kernel_rfl
set_option maxRecDepth 100000 in
theorem rchg_built (parts : List (Nat × Value)) : Tryz.prog.built 83 parts = Instr.fill (#[((0 : Nat), (1 : Nat)), (1, 64)][·]?) chgZero parts := by kernel_rfl
set_option maxRecDepth 100000 in
theorem built_rchg (v : Int) (p : List UInt8) (hp : p.length = 64) : Tryz.prog.built 83 [(0, .int .i64 v), (1, pageV p)] = some (chgVals ⟨v, p⟩).toArray := by
  rw [rchg_built]
  unfold pageV
  rw [fill_two chgZero _ _ rfl (by rw [List.size_toArray, byteVals_length, hp]) chgZero_size]
  rfl
set_option maxRecDepth 100000 in
theorem wpList_buildRchg {ops : Array Oper} {rest : List Oper} {o : Oper} {a : Act} {w : World} {Q : Exit → Act → World → Prop} (v : Int) (p : List UInt8) (hp : p.length = 64) (hg : o.guard = none) (x y : Operand) (ho : o.op = .build 83 #[(0, x), (1, y)]) (d : Option Tmp) (hd : o.dst = d) (hx : a.eval x = .int .i64 v) (hy : a.eval y = pageV p)
    (h : wpList Tryz.prog ops Q rest (a.put d (chgV ⟨v, p⟩)) w) : wpList Tryz.prog ops Q (o :: rest) a w :=
  wpList_buildTo hg 83 _ ho d hd (chgVals ⟨v, p⟩).toArray (by
    simp only [List.map_toArray, List.map_cons, List.map_nil, hx, hy]
    exact built_rchg v p hp) h
set_option maxRecDepth 100000 in
theorem rchg_three : (Tryz.prog.info? 83).map (fun i => (i.zero, i.size, i.bytes)) = some (some (.agg chgZero), 65, 72) := by kernel_rfl
set_option maxRecDepth 100000 in
theorem run_buildRchg1 (w : World) (c : Chg) (hp : c.page.length = 64) : (Instr.buildSlice 51 1 #[(0, chgV c)]).run Tryz.prog w = .ok (.slice (some ⟨w.heap.size, 0, none⟩) 1 1) (w.alloc (.cells (chgVals c).toArray 83)) := by
  obtain ⟨i, hi, hz, hs, _⟩ := info_parts rchg_three
  refine run_buildSlice w 51 83 1 #[(0, chgV c)] _ i (.agg chgZero) Tryz.underlying51 hi hz (by rw [hs]; omega) (by rw [hs]; omega) ?_
  rw [hs]
  have h := Great.fill_whole (s := 65) (by omega) [chgV c] ((Array.range (1 * 65)).map ((Value.agg chgZero).cells[· % (Value.agg chgZero).cells.size]!)) (fun v hv => by
    rw [List.mem_singleton] at hv
    rw [hv]
    show (chgVals c).toArray.size = 65
    rw [List.size_toArray, chgVals_length hp]) (by simp)
  refine h.trans ?_
  simp [chgV, Value.cells]
set_option maxRecDepth 100000 in
theorem wpList_buildRchg1 {ops : Array Oper} {rest : List Oper} {o : Oper} {a : Act} {w : World} {Q : Exit → Act → World → Prop} (c : Chg) (hp : c.page.length = 64) (x : Operand) (ho : o.op = .buildSlice 51 1 #[(0, x)]) (hw : Region.wanted o (yielded ops a.tmps) = true) (hx : a.eval x = chgV c)
    (h : wpList Tryz.prog ops Q rest (a.put o.dst (.slice (some ⟨w.heap.size, 0, none⟩) 1 1)) (w.alloc (.cells (chgVals c).toArray 83))) : wpList Tryz.prog ops Q (o :: rest) a w :=
  BigFrame.wpList_want hw fun _ hK => by
    have hr := run_buildRchg1 w c hp
    unfold Oper.wp execOp
    simp only [ho, List.map_toArray, List.map_cons, List.map_nil, hx, Sem.run_bind, hr, Result.andThen_ok]
    exact hK _ _ h

/-! ### a slice that a call owns -/
set_option maxRecDepth 100000 in
theorem flatG_len {α : Type} (f : α → List Value) (k : Nat) (xs : List α) (h : ∀ x ∈ xs, (f x).length = k) : (xs.flatMap f).length = xs.length * k := by
  induction xs with
  | nil => simp
  | cons x r ih =>
    rw [List.flatMap_cons, List.length_append, ih (fun y hy => h y (by simp [hy])), h x (by simp), List.length_cons, Nat.add_mul]; omega
set_option maxRecDepth 100000 in
theorem flatG_at {α : Type} (f : α → List Value) (k : Nat) (xs : List α) (h : ∀ x ∈ xs, (f x).length = k) : ∀ (i : Nat) (x : α) (j : Nat) (v : Value), xs[i]? = some x → (f x)[j]? = some v → (xs.flatMap f)[i * k + j]? = some v := by
  induction xs with
  | nil => intro i x j v hx; simp at hx
  | cons y r ih =>
    intro i x j v hx hv
    have hy := h y (by simp)
    rw [List.flatMap_cons]
    cases i with
    | zero =>
      simp at hx
      subst hx
      have hj : j < k := by rw [← hy]; exact (List.getElem?_eq_some_iff.1 hv).1
      rw [Nat.zero_mul, Nat.zero_add, List.getElem?_append_left (by rw [hy]; exact hj)]
      exact hv
    | succ i =>
      have e : (i + 1) * k = i * k + k := by rw [Nat.add_mul, Nat.one_mul]
      rw [List.getElem?_append_right (by rw [hy]; omega), hy, show (i + 1) * k + j - k = i * k + j by omega]
      exact ih (fun z hz => h z (by simp [hz])) i x j v (by simpa using hx) hv
/-- rows of one kind, of one's own; what is older is as it was -/
structure OwnG {α : Type} (e : TypeId) (k : Nat) (f : α → List Value) (w : World) (B : Nat) (xs : List α) (v : Value) (W : World) : Prop where
  row : W.ownsRow B e k v xs.length (xs.flatMap f)
  bel : Below B w W
  le : B ≤ W.heap.size
set_option maxRecDepth 100000 in
theorem OwnG.call {α : Type} {e : TypeId} {k : Nat} {f : α → List Value} {w : World} {B : Nat} {xs : List α} {v : Value} {W W' : World} (h : OwnG e k f w B xs v W) (hb : Below W.heap.size W W') : OwnG e k f w B xs v W' :=
  ⟨h.row.kept (row := none) ⟨hb.os, hb.tape, hb.output, hb.size, fun k hk _ => hb.block k hk⟩ (by
    cases hv : v.ownBlock with
    | none => exact Or.inl rfl
    | some g => exact Or.inr (by simp)), h.bel.trans (hb.mono h.le), Nat.le_trans h.le hb.size⟩
set_option maxRecDepth 100000 in
theorem OwnG.nil {α : Type} (e : TypeId) (k : Nat) (f : α → List Value) (w : World) : OwnG e k f w w.heap.size ([] : List α) (.slice none 0 0) w := ⟨World.ownsRow_nil w _ e k, Below.refl _ _, Nat.le_refl _⟩
set_option maxRecDepth 100000 in
theorem OwnG.slice {α : Type} {e : TypeId} {k : Nat} {f : α → List Value} {w : World} {B : Nat} {xs : List α} {A : Option Addr} {n c : Nat} {W : World} (h : OwnG e k f w B xs (.slice A n c) W) (hn : n = xs.length) (hx : ∀ x ∈ xs, (f x).length = k) {L : List Nat} (hL : ∀ i ∈ L, i < B) : SlAt W A L k f xs := fun h0 => by
  obtain ⟨h1, h2⟩ := h.row
  rcases h2 with ⟨e, e2⟩ | ⟨g, cap, cur, e, hb, hg, _, _, hsz, htk⟩
  · exfalso; omega
  · injection e with e _ _
    refine ⟨g, 0, e, (Array.getElem?_eq_some_iff.1 hg).1, fun q => by have := hL g q; omega, fun i x hxi j v hv => ?_⟩
    have hf := flatG_at f k xs hx i x j v hxi hv
    rw [← htk] at hf
    have hlt : i * k + j < xs.length * k := by
      have := (List.getElem?_eq_some_iff.1 hf).1
      rw [List.length_take] at this; omega
    rw [List.getElem?_take_of_lt hlt] at hf
    simp only [World.cell?, hg, Nat.zero_add]
    simp only [Option.isSome_none, Bool.false_eq_true, if_false]
    rw [← Array.getElem?_toList]
    exact hf
set_option maxRecDepth 100000 in
theorem OwnG.next {α : Type} {e : TypeId} {k : Nat} {f : α → List Value} {w : World} {B : Nat} {xs : List α} {x : α} {v v' : Value} {W W' : World} (h : OwnG e k f w B xs v W) (hrow : W'.ownsRow B e k v' (xs.length + 1) (xs.flatMap f ++ f x)) (hg : W.grownBy W' v.ownBlock) : OwnG e k f w B (xs ++ [x]) v' W' :=
  ⟨by rw [List.flatMap_append, List.length_append]; simpa using hrow, h.bel.grown hg h.le (fun j hj => (h.row.lt j hj).1), Nat.le_trans h.le hg.size⟩
set_option maxRecDepth 100000 in
theorem add_cell (b j : Nat) : (⟨b, 0, none⟩ : Addr).add j = ⟨b, j, none⟩ := by
  unfold Addr.add
  by_cases e : j = 0
  · subst e; rfl
  · rw [if_neg e, Nat.zero_add]
set_option maxRecDepth 100000 in
/-- a change is appended -/
theorem wpList_app_rchg {ops : Array Oper} {rest : List Oper} {o : Oper} {a : Act} {Q : Exit → Act → World → Prop} {w W : World} {B : Nat} {cs : List Chg} {v : Value} {b : Nat} {c : Chg} (h : OwnG 83 65 chgVals w B cs v W) (hp : c.page.length = 64) (hl : cs.length ≤ 1000) (hr : W.rangeAt b 0 (chgVals c))
    (hgd : o.guard = none) (s x : Operand) (ho : o.op = .call { callee := .builtin .append, args := #[s, x], argTypes := #[51, 51] }) (hs : a.eval s = v) (hx : a.eval x = .slice (some ⟨b, 0, none⟩) 1 1)
    (hn : ∀ A cap W', OwnG 83 65 chgVals w B (cs ++ [c]) (.slice A (cs.length + 1) cap) W' → wpList Tryz.prog ops Q rest (a.put o.dst (.slice A (cs.length + 1) cap)) W') : wpList Tryz.prog ops Q (o :: rest) a W := by
  obtain ⟨i, hi, hz, hs0, hb0⟩ := info_parts rchg_three
  refine wpList_append_own_at W hgd s x 51 ho B 83 i _ 65 72 Tryz.underlying51 hi hz hs0 hb0 chgZero_size (by omega) v cs.length _ hs h.row ⟨b, 0, none⟩ 1 1 (chgVals c) hx (chgVals_length hp) (fun j u hu => by
    rw [add_cell]
    have := hr j u hu
    rwa [Nat.zero_add] at this) (chgVals_one c) (by unfold maxLen; omega) (by omega) h.le ?_
  intro v' w' h1 h2 _ _
  obtain ⟨A, cap, rfl⟩ := owns_slice h1
  exact hn A cap w' (h.next h1 h2)
set_option maxRecDepth 100000 in
/-- a page is appended -/
theorem wpList_app_page {ops : Array Oper} {rest : List Oper} {o : Oper} {a : Act} {Q : Exit → Act → World → Prop} {w W : World} {B : Nat} {ps : List (List UInt8)} {v : Value} {b : Nat} {p : List UInt8} (h : OwnG 38 64 byteVals w B ps v W) (hp : p.length = 64) (hl : ps.length ≤ 1000) (hr : W.rangeAt b 0 (byteVals p))
    (hgd : o.guard = none) (s x : Operand) (ho : o.op = .call { callee := .builtin .append, args := #[s, x], argTypes := #[60, 60] }) (hs : a.eval s = v) (hx : a.eval x = .slice (some ⟨b, 0, none⟩) 1 1)
    (hn : ∀ A cap W', OwnG 38 64 byteVals w B (ps ++ [p]) (.slice A (ps.length + 1) cap) W' → wpList Tryz.prog ops Q rest (a.put o.dst (.slice A (ps.length + 1) cap)) W') : wpList Tryz.prog ops Q (o :: rest) a W := by
  obtain ⟨i, z, hi, hz, h64, hby, hzs⟩ := page_type
  refine wpList_append_own_at W hgd s x 60 ho B 38 i z 64 64 Tryz.underlying60 hi hz h64 hby hzs (by omega) v ps.length _ hs h.row ⟨b, 0, none⟩ 1 1 (byteVals p) hx (by rw [byteVals_length, hp]) (fun j u hu => by
    rw [add_cell]
    have := hr j u hu
    rwa [Nat.zero_add] at this) (byteVals_one p) (by unfold maxLen; omega) (by omega) h.le ?_
  intro v' w' h1 h2 _ _
  obtain ⟨A, cap, rfl⟩ := owns_slice h1
  exact hn A cap w' (h.next h1 h2)
set_option maxRecDepth 100000 in
theorem gives_store_rchg {o : Oper} {a : Act} {w : World} {b : Nat} {q c : Chg} {R : Value → World → Prop} (k : ChVar w b q) (hq : q.page.length = 64) (hp : c.page.length = 64) (x y : Operand) (ho : o.op = .store 83 x y) (hx : a.eval x = .pointer (some ⟨b, 0, none⟩)) (hy : a.eval y = chgV c)
    (hR : R undef (w.setCells b 0 (chgVals c))) : Gives Tryz.prog (execOp a.eval o) w R := by
  have hs := run_storeVar_mid (P := Tryz.prog) w b 0 83 (chgVals c).toArray (by rw [List.size_toArray, chgVals_length hp, ← chgVals_length hq]; exact k.free) (by rw [rchg_info, List.size_toArray, chgVals_length hp]) (all_oneCell_toArray (chgVals_one c))
  rw [show Value.agg (chgVals c).toArray = chgV c from rfl] at hs
  have hrun : (execOp a.eval o).run Tryz.prog w = .ok .skip (w.setCells b 0 (chgVals c)) ∨ (execOp a.eval o).run Tryz.prog w = .ok (.value undef) (w.setCells b 0 (chgVals c)) := by
    unfold execOp
    simp only [ho, hx, hy, Instr.storeAt, Instr.sureAddr, Sem.run_bind, Sem.run_pure, Result.andThen_ok, hs]
    simp
  unfold Gives
  rcases hrun with h | h <;> (rw [h]; exact hR)
end Go.Proofs.YtppbiohjhnoagaaGreat

/-
  The contract of the document's own Open of a journal: a size that doesn't fit, and a head that does not count.
-/
namespace Go.Proofs.YtppbiohjhnoagaaGreat
open Go.RowKit
open Dk (zeros zeros_length)
open Hd (Head rightB pageH)
open Jn (Chg quietH liveH)

/-- what the document's Open leaves -/
def ROpened (w : World) (r ra rb rc A Z : Nat) (R : Dk.St × Int) (q : Int) (e : Ending) (w' : World) : Prop :=
  RefAt w' r ra rb rc R.1 ∧ Only [r, ra, rb, rc] w w' ∧
  ((R.2 = 0 ∧ ∃ j cnt, e = .returned (.tuple #[.pointer (some ⟨j, 0, none⟩), .int .i64 cnt, .int .i64 0]) ∧ JAt w' j r A Z q false ∧ w.heap.size ≤ j) ∨
   (R.2 ≠ 0 ∧ e = .returned (.tuple #[.pointer none, .int .i64 0, .int .i64 5])))
structure RoI (w : World) (r ra rb rc j A Z : Nat) (q : Int) (s : Dk.St) (W : World) : Prop where
  disk : RefAt W r ra rb rc s
  jr : JAt W j r A Z q false
  bel : Below w.heap.size w W
  new : w.heap.size ≤ j
  olds : r < w.heap.size ∧ ra < w.heap.size ∧ rb < w.heap.size ∧ rc < w.heap.size
theorem RoI.call {w : World} {r ra rb rc j A Z : Nat} {q : Int} {s : Dk.St} {W W' : World} (h : RoI w r ra rb rc j A Z q s W) (hb : Below W.heap.size W W') : RoI w r ra rb rc j A Z q s W' :=
  ⟨h.disk.below hb, h.jr.below hb, h.bel.trans (hb.mono h.bel.size), h.new, h.olds⟩
theorem RoI.far {w : World} {r ra rb rc j A Z : Nat} {q : Int} {s : Dk.St} {W : World} (h : RoI w r ra rb rc j A Z q s W) : j ∉ [r, ra, rb, rc] := by
  have := h.new
  have := h.olds
  simp; omega
theorem RoI.seq {w : World} {r ra rb rc j A Z : Nat} {q : Int} {s : Dk.St} {W : World} (h : RoI w r ra rb rc j A Z q s W) (x : Int) : RoI w r ra rb rc j A Z x s (W.setCell ⟨j, 3, none⟩ (.int .i64 x)) := by
  have ho : Only [j] W (W.setCell ⟨j, 3, none⟩ (.int .i64 x)) := (Only.refl [j] W).setCell (p := ⟨j, 3, none⟩) (by simp) _
  have := h.new
  have := h.olds
  exact ⟨h.disk.only ho (by simp; omega) (by simp; omega) (by simp; omega) (by simp; omega), h.jr.setSeq x, h.bel.setCell (by exact h.new) _, h.new, h.olds⟩
theorem roI_start {w : World} {r ra rb rc : Nat} {s : Dk.St} (A Z : Nat) (h : RefAt w r ra rb rc s) (t : TypeId) : RoI w r ra rb rc w.heap.size A Z 0 s (w.alloc (.cells (jVals r A Z 0 false).toArray t)) :=
  ⟨h.alloc _, jAt_new w r A Z t, (Below.refl _ _).alloc (Nat.le_refl _) _, Nat.le_refl _, h.rlt, h.alt, h.blt, h.clt⟩

set_option maxRecDepth 100000 in
set_option maxHeartbeats 4000000 in
theorem ropen_bad {w : World} {r ra rb rc A : Nat} {s : Dk.St} (h : RefAt w r ra rb rc s) (hup : s.down = false) (z : Int) (hz0 : -9223372036854775808 ≤ z) (hz1 : z ≤ 9223372036854775807) (hA : A < s.last.length) (hb : z ≤ 2 ∨ (3 ≤ z ∧ (s.last.length : Int) - (A : Int) < z)) :
    Calls Tryz.prog 28 #[.pointer (some ⟨r, 0, none⟩), .int .i64 (A : Int), .int .i64 z] w fun e w' => e = .returned (.tuple #[.pointer none, .int .i64 0, .int .i64 22]) ∧ w = w' := by
  have c0 := h.c0
  have c4 := h.c4
  rw [hup] at c4
  have hsm := h.ok.small
  clear h hup
  generalize s.last.length = n at c0 hA hb hsm
  have HRM := Lib.hid (rroom_any z w)
  rcases hb with hb | ⟨hb3, hb⟩
  · rw [rN_small z hb 512] at HRM
    go_enter Tryz.func28, Tryz.ntmps28
    go_wp2_with fail
    refine HRM.out.mono ?_
    rintro e w1 ⟨rfl, rfl⟩
    go_wp2_with fail
    go_ret3
    exact ⟨rfl, rfl⟩
  · have HP := Lib.hid (rN_pos z hb3 512 (by omega))
    generalize rN z 512 = N at HRM HP
    have hr1 : ((N : Int) == 0) = false := by have := HP.out; rw [beq_eq_false_iff_ne]; omega
    have hr2 : ¬ ((A : Int) < 0) := by omega
    have hr3 : ¬ ((n : Int) ≤ (A : Int)) := by omega
    have hw : IntKind.i64.wrap ((n : Int) - (A : Int)) = (n : Int) - (A : Int) := IntWalk.i64_in _ (by omega)
    go_enter Tryz.func28, Tryz.ntmps28
    go_wp2_with fail
    refine HRM.out.mono ?_
    rintro e w1 ⟨rfl, rfl⟩
    go_wp2_with fail
    go_ret3
    exact ⟨rfl, rfl⟩
set_option maxRecDepth 100000 in
set_option maxHeartbeats 4000000 in
theorem ropen_quiet {w : World} {r ra rb rc A Z : Nat} {s : Dk.St} (h : RefAt w r ra rb rc s) (hup : s.down = false) (hA : A ≤ 900) (h3 : 3 ≤ Z) (h20 : Z ≤ 20) (hreg : A + Z ≤ s.last.length) (hq : Jn.QuietP (Dk.readP s (A : Int))) (hn : Hd.nextN [Dk.readP s (A : Int)] < 4294967290) :
    Calls Tryz.prog 28 #[.pointer (some ⟨r, 0, none⟩), .int .i64 (A : Int), .int .i64 (Z : Int)] w (ROpened w r ra rb rc A Z (Jn.runs s [[⟨(A : Int), pageH (quietH (Hd.nextN [Dk.readP s (A : Int)]))⟩]]) (Hd.nextN [Dk.readP s (A : Int)] + 1)) := by
  rw [runs_one]
  have c0 := h.c0
  have c4 := h.c4
  rw [hup] at c4
  have hsm := h.ok.small
  have HI1 := Lib.hid (roI_start A Z h 58)
  unfold jVals at HI1
  have HPL := Lib.hid (Dk.readP_len h.ok (A : Int))
  have HRD : Hid (∀ j q W, RoI w r ra rb rc j A Z q s W → Calls Tryz.prog 36 #[.pointer (some ⟨r, 0, none⟩), .int .i64 (A : Int)] W fun e w' => e = .returned (.tuple #[pageV (Dk.readP s (A : Int)), .int .i64 0]) ∧ Below W.heap.size W w') := Lib.hid (fun j q W hW => by
    have := rread_any hW.disk (A : Int)
    rw [Dk.reach_mk hup (Dk.has_mk (by omega))] at this
    exact this)
  have HRM : Hid (Calls Tryz.prog 33 #[.int .i64 (Z : Int)] w fun e w' => e = .returned (.int .i64 ((Z - 2 : Nat) : Int)) ∧ w = w') := Lib.hid (by
    have := rroom_any (Z : Int) w
    rwa [rN_fit Z h3 h20 512 (by omega)] at this)
  clear h hup
  generalize s.last.length = n at c0 hreg hsm
  generalize Dk.readP s (A : Int) = p at HPL HRD hq hn ⊢
  have HN0 := Lib.hid (Hd.nextN_nonneg [p])
  have HNX : Hid (∀ W P, PageRow W P 1 [p] → Calls Tryz.prog 50 #[.slice P 1 1] W fun e w' => e = .returned (.int .i64 (Hd.nextN [p])) ∧ Below W.heap.size W w') := Lib.hid (fun W P hr => refNext_any P 1 1 [p] W hr)
  obtain ⟨hh, wb, hdec, hwb⟩ : ∃ (hh : Head) (wb : Bool), (∀ W, Calls Tryz.prog 49 #[pageV p] W fun e w' => e = .returned (.tuple #[headV hh, .bool wb]) ∧ Below W.heap.size W w') ∧ (wb = false ∨ (wb = true ∧ hh.live = false)) := by
    refine ⟨Hd.decH p, Hd.wholeB p, fun W => refRead_any p W HPL.out, ?_⟩
    cases hw : Hd.wholeB p with
    | false => exact Or.inl rfl
    | true =>
      right
      refine ⟨rfl, ?_⟩
      unfold Hd.decH
      rw [if_pos hw]
      cases hl : (Hd.readH p).live with
      | false => rfl
      | true => exact absurd ⟨hw, hl⟩ hq
  have HDE := Lib.hid hdec
  clear hdec hq
  generalize hnn : Hd.nextN [p] = m at HN0 HNX hn ⊢
  clear hnn
  rw [show quietH m = ⟨m, false, 0, 0⟩ from rfl]
  generalize hR : Jn.runW s [⟨(A : Int), pageH ⟨m, false, 0, 0⟩⟩] = R
  have HR := Lib.hid hR
  clear hR
  have hr1 : (((Z - 2 : Nat) : Int) == 0) = false := by rw [beq_eq_false_iff_ne]; omega
  have hr2 : ¬ ((A : Int) < 0) := by omega
  have hr3 : ¬ ((n : Int) ≤ (A : Int)) := by omega
  have hr4 : ¬ ((n : Int) - (A : Int) < (Z : Int)) := by omega
  have hw : IntKind.i64.wrap ((n : Int) - (A : Int)) = (n : Int) - (A : Int) := IntWalk.i64_in _ (by omega)
  have HLIVE : Hid (wb = false ∨ (wb = true ∧ hh.live = false)) := Lib.hid hwb
  clear hwb
  go_enter Tryz.func28, Tryz.ntmps28
  go_wp2_with fail
  refine HRM.out.mono ?_
  rintro e w1 ⟨rfl, rfl⟩
  go_wp2_with fail
  clear hr1 hr2 hr3 hr4 hw HRM c0 c4
  generalize w.alloc (.cells _ 58) = w1 at HI1 ⊢
  generalize hjj : w.heap.size = j at HI1 ⊢
  have HJJ := Lib.hid hjj
  clear hjj
  refine (HRD.out _ _ _ HI1.out).mono ?_
  rintro e w2 ⟨rfl, hb2⟩
  have HI2 := Lib.hid (HI1.out.call hb2)
  clear hb2 HI1 HRD
  go_wp2_with (first
    | ((with_reducible refine wpList_store_new rfl (.tmp 10) (.tmp 62) rfl rfl ?_ ?_ HPL.out ?_); (exact rfl); (exact rfl); intro w3 hP3 hB3 hz3; have HI3 := Lib.hid (HI2.out.call hB3); have HP3 := Lib.hid hP3; clear HI2 hP3 hB3 hz3; generalize w2.heap.size = C at HP3 ⊢)
    | (with_reducible refine wpList_load_page HP3.out rfl (.tmp 10) rfl rfl ?_))
  refine (HDE.out _).mono ?_
  rintro e w4 ⟨rfl, hB4⟩
  have HI4 := Lib.hid (HI3.out.call hB4)
  have HP4 := Lib.hid (HP3.out.below hB4 HP3.out.lt)
  clear HI3 HP3 hB4 HDE
  rcases HLIVE.out with rfl | ⟨rfl, hlv⟩
  all_goals
    clear HLIVE
    go_wp2_with (first
      | ((with_reducible refine wpList_store_newhead refT (h := hh) rfl (.tmp 12) (.tmp 67) rfl rfl ?_ ?_ ?_); (exact rfl); (exact rfl); intro w5 hH hB5 hz5; have HI5 := Lib.hid (HI4.out.call hB5); have HP5 := Lib.hid (HP4.out.below hB5 HP4.out.lt); have g1 := hH.c1; (try rw [hlv] at g1); clear HI4 HP4 hH hB5 hz5; generalize w4.heap.size = D at g1 ⊢)
      | (with_reducible refine wpList_load_page HP5.out rfl (.tmp 10) rfl rfl ?_)
      | ((with_reducible refine wpList_buildPage HPL.out rfl (.tmp 77) rfl ?_ ?_); (exact rfl)))
    have HI6 := Lib.hid (HI5.out.call (W' := w5.alloc (.cells (byteVals p).toArray 38)) ((Below.refl _ _).alloc (Nat.le_refl _) _))
    have HR6 := Lib.hid (((rows_one w5 p HPL.out 38).slice (L := []) (by simp)).row (by simp) (rows_one w5 p HPL.out 38).size)
    clear HI5 HP5 g1
    generalize w5.alloc (.cells (byteVals p).toArray 38) = w6 at HI6 HR6 ⊢
    refine (HNX.out _ _ HR6.out).mono ?_
    rintro e w7 ⟨rfl, hB7⟩
    have HI7 := Lib.hid (HI6.out.call hB7)
    clear HI6 HR6 hB7
    have c3 := HI7.out.jr.c3
    have f3 := HI7.out.jr.f 3 (by omega)
    have HI8 := Lib.hid (HI7.out.seq m)
    clear HI7
    go_wp2_with fail
    clear c3 f3
    generalize w7.setCell ⟨j, 3, none⟩ (.int .i64 m) = w8 at HI8 ⊢
    have HMK := Lib.hid (rmark_any HI8.out.jr HI8.out.disk HI8.out.far hA false 0 0 (Jn.quietH_right HN0.out (by omega)) (Int.le_refl _) (by omega) HN0.out (by omega))
    rw [HR.out] at HMK
    refine HMK.out.mono ?_
    rintro e w9 ⟨rfl, hd9, ⟨q9, hj9, hq9⟩, ho9⟩
    have HD9 := Lib.hid hd9
    have HJ9 := Lib.hid hj9
    have HQ9 := Lib.hid hq9
    have HO9 : Hid (Only [r, ra, rb, rc] w w9) := Lib.hid ((Only.below (l := [r, ra, rb, rc]) HI8.out.bel).drop ho9 (by intro x hx; have := HI8.out.new; simp at hx ⊢; omega))
    have HNW := Lib.hid HI8.out.new
    clear hd9 hj9 hq9 ho9 HI8 HMK
    by_cases hE : R.2 = 0
    · have HE := Lib.hid hE
      rw [decide_eq_true hE]
      clear hE
      go_wp2_with fail
      go_ret3
      exact ⟨HD9.out, HO9.out, Or.inl ⟨HE.out, j, 0, rfl, by rw [← HQ9.out HE.out]; exact HJ9.out, HNW.out⟩⟩
    · have HE := Lib.hid hE
      rw [decide_eq_false hE]
      clear hE
      go_wp2_with fail
      go_ret3
      exact ⟨HD9.out, HO9.out, Or.inr ⟨HE.out, rfl⟩⟩
end Go.Proofs.YtppbiohjhnoagaaGreat
