/-
  The contracts of the document's own journal: put and home.
-/
import Derived.Test.YtppbiohjhnoagaaGreatMje
import Derived.Test.YtppbiohjhnoagaaGreatMdr
import Derived.IntWalk
import Derived.Test.YtppbiohjhnoagaaGreatMra
import Derived.BigQuiet
import Derived.Deep.QuietTactic
import Derived.Test.YtppbiohjhnoagaaGreatMjb
namespace Go.Proofs.YtppbiohjhnoagaaGreat
open Go.RowKit
open Dk (zeros zeros_length)
open Hd (Head rightB pageH)
open Jn (Chg)

/-- the reference's disk and journal in a round -/
structure RpI (w : World) (r ra rb rc j A Z : Nat) (q : Int) (o : Bool) (R : World → Prop) (s : Dk.St) (W : World) : Prop where
  disk : RefAt W r ra rb rc s
  jr : JAt W j r A Z q o
  row : R W
  far : j ∉ [r, ra, rb, rc]
  only : Only [r, ra, rb, rc] w W
def StaysR (R : World → Prop) (r ra rb rc : Nat) : Prop := ∀ W W' L, (∀ x ∈ L, x ∈ [r, ra, rb, rc]) → Only L W W' → R W → R W'
theorem RpI.call {w : World} {r ra rb rc j A Z : Nat} {q : Int} {o : Bool} {R : World → Prop} {s s' : Dk.St} {W W' : World} {L : List Nat} (h : RpI w r ra rb rc j A Z q o R s W) (hR : StaysR R r ra rb rc) (hd : RefAt W' r ra rb rc s') (ho : Only L W W') (hL : ∀ x ∈ L, x ∈ [r, ra, rb, rc]) : RpI w r ra rb rc j A Z q o R s' W' :=
  ⟨hd, h.jr.only ho (fun e => h.far (hL _ e)), hR W W' L hL ho h.row, h.far, h.only.trans (ho.mono hL)⟩
theorem RpI.belowR {w : World} {r ra rb rc j A Z : Nat} {q : Int} {o : Bool} {R : World → Prop} {s : Dk.St} {W W' : World} (h : RpI w r ra rb rc j A Z q o R s W) (hR : StaysR R r ra rb rc) (hb : Below W.heap.size W W') : RpI w r ra rb rc j A Z q o R s W' :=
  h.call hR (h.disk.below hb) (Only.below (l := []) hb) (by simp)
theorem staysR_pg (A : Option Addr) (r ra rb rc : Nat) (ps : List (List UInt8)) : StaysR (fun W => PgAt W A [r, ra, rb, rc] ps) r ra rb rc := fun _ _ _ hL ho h => h.only ho hL
theorem staysR_ch (A : Option Addr) (r ra rb rc : Nat) (cs : List Chg) : StaysR (fun W => ChAt W A [r, ra, rb, rc] cs) r ra rb rc := fun _ _ _ hL ho h => h.only ho hL
theorem chg_cells {W : World} {b o : Nat} {x : Chg} (h : W.rangeAt b o (chgVals x)) : W.cell? ⟨b, o, none⟩ = some (.int .i64 x.no) ∧ W.rangeAt b (o + 1) (byteVals x.page) := by
  refine ⟨by have := h 0 (.int .i64 x.no) rfl; rwa [Nat.add_zero] at this, fun j v hv => ?_⟩
  have := h (j + 1) v hv
  rwa [show o + (j + 1) = o + 1 + j by omega] at this
set_option maxRecDepth 100000 in
set_option maxHeartbeats 4000000 in
theorem rput_any {w : World} {r ra rb rc j A Z : Nat} {q : Int} {o : Bool} {s : Dk.St} (h : RefAt w r ra rb rc s) (hj : JAt w j r A Z q o) (hjd : j ∉ [r, ra, rb, rc]) (a : Nat) (P : Option Addr) (c : Nat) (ps : List (List UInt8)) (hrow : PgAt w P [r, ra, rb, rc] ps) (hp : ∀ p ∈ ps, p.length = 64) (hl : ps.length ≤ 1000) (ha : a ≤ 1000) :
    Calls Tryz.prog 63 #[.pointer (some ⟨j, 0, none⟩), .int .i64 (a : Int), .slice P ps.length c] w fun e w' => e = .returned (.bool (decide ((Jn.runW s (Jn.layAt a ps)).2 = 0))) ∧ RefAt w' r ra rb rc (Jn.runW s (Jn.layAt a ps)).1 ∧ JAt w' j r A Z q o ∧ Only [r, ra, rb, rc] w w' := by
  have HST := Lib.hid (staysR_pg P r ra rb rc ps)
  have HS : Hid (RpI w r ra rb rc j A Z q o (fun W => PgAt W P [r, ra, rb, rc] ps) s w) := Lib.hid ⟨h, hj, hrow, hjd, Only.refl _ _⟩
  have HP := Lib.hid hp
  clear h hj hrow hp hjd
  obtain ⟨n, hn⟩ : ∃ n, ps.length = n := ⟨_, rfl⟩
  have HN := Lib.hid hn
  rw [hn] at hl ⊢
  clear hn
  go_enter Tryz.func63, Tryz.ntmps63
  go_wp2_with fail
  go_loopw [7] (fun i wr => ∃ (k : Nat) (sk : Dk.St), k ≤ n ∧ i = .int .i64 k ∧ RpI w r ra rb rc j A Z q o (fun W => PgAt W P [r, ra, rb, rc] ps) sk wr ∧ Jn.runW s (Jn.layAt a ps) = Jn.runW sk (Jn.layAt (a + k) (ps.drop k))) (fun i _ => n - (intOf i).toNat)
  case atStart => exact ⟨0, s, Nat.zero_le _, rfl, HS.out, rfl⟩
  case round =>
    obtain ⟨k, sk, hk, rfl, hput, hrun⟩ := hrel
    have HI := Lib.hid hput
    have HR := Lib.hid hrun
    clear hput hrun HS
    by_cases hlt : k < n
    · obtain ⟨p, hpk⟩ : ∃ p, ps[k]? = some p := ⟨_, List.getElem?_eq_getElem (by rw [HN.out]; exact hlt)⟩
      obtain ⟨b, off, rfl, hb, hnb, hc⟩ := HI.out.row (by rw [HN.out]; omega)
      have HC := Lib.hid (hc k p hpk)
      have HPL := Lib.hid (HP.out p (List.mem_of_getElem? hpk))
      have HE := Lib.hid (layAt_rest ps a k p hpk)
      have HX : Hid ((a : Int) + (k : Int) = ((a + k : Nat) : Int)) := Lib.hid (by omega)
      have HWR : Hid (∀ W, RpI w r ra rb rc j A Z q o (fun W => PgAt W (some ⟨b, off, none⟩) [r, ra, rb, rc] ps) sk W → Calls Tryz.prog 74 #[.pointer (some ⟨r, 0, none⟩), .int .i64 ((a : Int) + (k : Int)), pageV p] W fun e w' => e = .returned (.int .i64 (Dk.writeE sk ((a : Int) + (k : Int)))) ∧ RpI w r ra rb rc j A Z q o (fun W => PgAt W (some ⟨b, off, none⟩) [r, ra, rb, rc] ps) (Dk.write sk ((a : Int) + (k : Int)) p) w') := Lib.hid (fun W hW => (rwrite_any hW.disk _ p HPL.out).mono fun e w' ⟨g1, g2, g3⟩ => ⟨g1, hW.call HST.out g2 g3 (by simp)⟩)
      have HCK : Hid (∀ W s', RpI w r ra rb rc j A Z q o (fun W => PgAt W (some ⟨b, off, none⟩) [r, ra, rb, rc] ps) s' W → W.rangeAt b (off + k * 64) (byteVals p)) := Lib.hid (fun W s' hW => by
        obtain ⟨b', off', e, _, _, hc'⟩ := hW.row (by rw [HN.out]; omega)
        injection e with e
        injection e with e1 e2
        subst e1; subst e2
        exact hc' k p hpk)
      have hlt' : (k : Int) < (n : Int) := by omega
      have hwr : IntKind.i64.wrap ((a : Int) + (k : Int)) = (a : Int) + (k : Int) := IntWalk.i64_in _ (by omega)
      clear hb hnb hc hpk
      have HB := Lib.hid (fun (W W' : World) (s' : Dk.St) (hW : RpI w r ra rb rc j A Z q o (fun W => PgAt W (some ⟨b, off, none⟩) [r, ra, rb, rc] ps) s' W) (hb : Below W.heap.size W W') => hW.belowR HST.out hb)
      go_wp2_with fail
      refine wp_region_noPanic ?_
      refine wp_region_held_drew (S := fun W => JAt W j r A Z q o ∧ W.rangeAt b (off + k * 64) (byteVals p)) (by kernel_rfl) ⟨HI.out.jr.below (Below.refl _ _).drew, HC.out⟩ (fun hHeld => ?_)
      have HI2 := Lib.hid (HB.out _ _ _ HI.out (Below.refl _ _).drew)
      clear HI HC
      generalize wr.drew = w2 at HI2 hHeld ⊢
      refine take_at (i := 0) (d := some 14) (v := .pointer (some ⟨j, 0, none⟩)) rfl rfl (by kernel_rfl) (by kernel_rfl) (by kernel_rfl) (fun _ _ _ h => h) (Or.inl ⟨by kernel_rfl, ?_⟩) hHeld ?_
      · intro w hSw; have c0 := hSw.1.c0; clear hSw; go_simp
      (try simp only [Act.put, List.setIfInBounds_toArray, List.set_cons_zero, List.set_cons_succ])
      refine take_at (i := 1) (d := some 15) (v := .pointer (some ⟨j, 0, none⟩)) rfl rfl (by kernel_rfl) (by kernel_rfl) (by kernel_rfl) (fun _ _ _ h => h) (Or.inl ⟨by kernel_rfl, ?_⟩) hHeld ?_
      · intro w hSw; have c0 := hSw.1.c0; clear hSw; go_simp
      (try simp only [Act.put, List.setIfInBounds_toArray, List.set_cons_zero, List.set_cons_succ])
      refine take_at (i := 2) (d := some 16) (v := .pointer (some ⟨j, 0, none⟩)) rfl rfl (by kernel_rfl) (by kernel_rfl) (by kernel_rfl) (fun _ _ _ h => h) (Or.inl ⟨by kernel_rfl, ?_⟩) hHeld ?_
      · intro w hSw; have c0 := hSw.1.c0; clear hSw; go_simp
      (try simp only [Act.put, List.setIfInBounds_toArray, List.set_cons_zero, List.set_cons_succ])
      refine take_at (i := 3) (d := some 17) (v := .pointer (some ⟨r, 0, none⟩)) rfl rfl (by kernel_rfl) (by kernel_rfl) (by kernel_rfl) (fun _ _ _ h => h) (Or.inl ⟨by kernel_rfl, ?_⟩) hHeld ?_
      · intro w hSw; have c0 := hSw.1.c0; clear hSw; go_simp
      (try simp only [Act.put, List.setIfInBounds_toArray, List.set_cons_zero, List.set_cons_succ])
      refine take_at (i := 4) (d := some 18) (v := .int .i64 (a : Int)) rfl rfl (by kernel_rfl) (by kernel_rfl) (by kernel_rfl) (fun _ _ _ h => h) (Or.inl ⟨by kernel_rfl, ?_⟩) hHeld ?_
      · intro w hSw; have c0 := hSw.1.c0; clear hSw; go_simp
      (try simp only [Act.put, List.setIfInBounds_toArray, List.set_cons_zero, List.set_cons_succ])
      refine take_at (i := 5) (d := some 19) (v := .int .i64 (k : Int)) rfl rfl (by kernel_rfl) (by kernel_rfl) (by kernel_rfl) (fun _ _ _ h => h) (Or.inl ⟨by kernel_rfl, ?_⟩) hHeld ?_
      · intro w hSw; have c0 := hSw.1.c0; clear hSw; go_simp
      (try simp only [Act.put, List.setIfInBounds_toArray, List.set_cons_zero, List.set_cons_succ])
      refine take_at (i := 6) (d := some 20) (v := .int .i64 ((a : Int) + (k : Int))) rfl rfl (by kernel_rfl) (by kernel_rfl) (by kernel_rfl) (fun _ _ _ h => h) (Or.inl ⟨by kernel_rfl, ?_⟩) hHeld ?_
      · intro w hSw; have c0 := hSw.1.c0; clear hSw; go_simp
      (try simp only [Act.put, List.setIfInBounds_toArray, List.set_cons_zero, List.set_cons_succ])
      refine take_at (i := 7) (d := some 21) (v := .slice (some ⟨b, off, none⟩) n c) rfl rfl (by kernel_rfl) (by kernel_rfl) (by kernel_rfl) (fun _ _ _ h => h) (Or.inl ⟨by kernel_rfl, ?_⟩) hHeld ?_
      · intro w hSw; have c0 := hSw.1.c0; clear hSw; go_simp
      (try simp only [Act.put, List.setIfInBounds_toArray, List.set_cons_zero, List.set_cons_succ])
      refine take_at (i := 8) (d := some 22) (v := .int .i64 (k : Int)) rfl rfl (by kernel_rfl) (by kernel_rfl) (by kernel_rfl) (fun _ _ _ h => h) (Or.inl ⟨by kernel_rfl, ?_⟩) hHeld ?_
      · intro w hSw; have c0 := hSw.1.c0; clear hSw; go_simp
      (try simp only [Act.put, List.setIfInBounds_toArray, List.set_cons_zero, List.set_cons_succ])
      refine take_at (i := 9) (d := some 23) (v := .pointer (some ⟨b, off + k * 64, none⟩)) rfl rfl (by kernel_rfl) (by kernel_rfl) (by kernel_rfl) (fun _ _ _ h => h) (Or.inl ⟨by kernel_rfl, ?_⟩) hHeld ?_
      · intro w hSw; have c0 := hSw.1.c0; clear hSw; go_simp
      (try simp only [Act.put, List.setIfInBounds_toArray, List.set_cons_zero, List.set_cons_succ])
      refine take_at (i := 10) (d := some 24) (v := pageV p) rfl rfl (by kernel_rfl) (by kernel_rfl) (by kernel_rfl) (fun _ _ _ h => h) (yields_page (by kernel_rfl) (.tmp 23) rfl rfl HPL.out (fun _ hSw => hSw.2)) hHeld ?_
      (try simp only [Act.put, List.setIfInBounds_toArray, List.set_cons_zero, List.set_cons_succ])
      refine wpAnyH_ready (rs := [11]) (by kernel_rfl) (by simp) ?_
      refine AllReadyH.cons rfl (fun K hK => ?_) AllReadyH.nil
      go_simp
      (go_at_call 74; refine (HWR.out w2 HI2.out).mono ?_; rintro e w3 ⟨rfl, hI3⟩; have HI3 := Lib.hid hI3; have HC3 := Lib.hid (HCK.out w3 _ HI3.out); clear hI3)
      (try go_wp2_with fail)
      refine hK.out _ _ ⟨HI3.out.jr, HC3.out⟩ (fun hHeld => ?_)
      clear hK K
      (try simp only [Act.put, List.setIfInBounds_toArray, List.set_cons_zero, List.set_cons_succ])
      refine take_at (i := 12) (d := some 26) (v := .bool (Dk.writeE sk ((a : Int) + (k : Int)) != 0)) rfl rfl (by kernel_rfl) (by kernel_rfl) (by kernel_rfl) (fun _ _ _ h => h) (Or.inl ⟨by kernel_rfl, ?_⟩) hHeld ?_
      · intro w hSw; clear hSw; go_simp
      (try simp only [Act.put, List.setIfInBounds_toArray, List.set_cons_zero, List.set_cons_succ])
      refine wpAnyH_done (by kernel_rfl) ?_ _
      refine NoPanic.normal ?_
      clear HWR HCK HB
      by_cases hw : Dk.writeE sk ((a : Int) + (k : Int)) = 0
      · have HRW : Hid (Jn.runW s (Jn.layAt a ps) = Jn.runW (Dk.write sk ((a : Int) + (k : Int)) p) (Jn.layAt (a + (k + 1)) (ps.drop (k + 1)))) := Lib.hid (by rw [HR.out, HE.out, runW_ok (by rw [← HX.out]; exact hw), HX.out])
        rw [hw]
        clear hw
        go_wp2_with fail
        go_roundw
        case rel => exact ⟨k + 1, _, by omega, by go_num, HI3.out, HRW.out⟩
        case measure => simp [intOf]; omega
      · have HRW : Hid (Jn.runW s (Jn.layAt a ps) = (Dk.write sk ((a : Int) + (k : Int)) p, Dk.writeE sk ((a : Int) + (k : Int)))) := Lib.hid (by rw [HR.out, HE.out, runW_bad (by rw [← HX.out]; exact hw), HX.out])
        have hne2 : (Dk.writeE sk ((a : Int) + (k : Int)) == 0) = false := by simpa using hw
        have hne3 : (Dk.writeE sk ((a : Int) + (k : Int)) != 0) = true := by simpa using hw
        have HNE := Lib.hid hw
        generalize Dk.writeE sk ((a : Int) + (k : Int)) = E at hne2 hne3 HRW HNE ⊢
        clear hw
        go_wp2_with fail
        go_ret
        rw [HRW.out, decide_eq_false HNE.out]
        exact ⟨rfl, HI3.out.disk, HI3.out.jr, HI3.out.only⟩
    · obtain rfl : k = n := by omega
      have HRW : Hid (Jn.runW s (Jn.layAt a ps) = (Dk.flush sk, Dk.flushE sk)) := Lib.hid (by rw [HR.out, List.drop_of_length_le (by rw [HN.out]; omega)]; rfl)
      have c0 := HI.out.jr.c0
      have hkk : ¬ ((k : Int) < (k : Int)) := by omega
      go_wp2_with fail
      refine (rflush_any HI.out.disk).mono ?_
      rintro e W3 ⟨rfl, hd3, ho3⟩
      have HI3 := Lib.hid (HI.out.call HST.out hd3 ho3 (by simp))
      clear HI c0 hd3 ho3
      by_cases hw : Dk.flushE sk = 0
      · have HW0 := Lib.hid hw
        rw [hw]
        clear hw
        go_wp2_with fail
        go_ret
        rw [HRW.out, decide_eq_true HW0.out]
        exact ⟨rfl, HI3.out.disk, HI3.out.jr, HI3.out.only⟩
      · have hne2 : (Dk.flushE sk == 0) = false := by simpa using hw
        have HNE := Lib.hid hw
        clear hw
        generalize Dk.flushE sk = E at hne2 HNE HRW ⊢
        go_wp2_with fail
        go_ret
        rw [HRW.out, decide_eq_false HNE.out]
        exact ⟨rfl, HI3.out.disk, HI3.out.jr, HI3.out.only⟩
set_option maxRecDepth 100000 in
set_option maxHeartbeats 4000000 in
theorem rhome_any {w : World} {r ra rb rc j A Z : Nat} {q : Int} {o : Bool} {s : Dk.St} (h : RefAt w r ra rb rc s) (hj : JAt w j r A Z q o) (hjd : j ∉ [r, ra, rb, rc]) (P : Option Addr) (c : Nat) (ps : List Chg) (hrow : ChAt w P [r, ra, rb, rc] ps) (hp : ∀ p ∈ ps, p.page.length = 64) (hl : ps.length ≤ 1000) :
    Calls Tryz.prog 56 #[.pointer (some ⟨j, 0, none⟩), .slice P ps.length c] w fun e w' => e = .returned (.bool (decide ((Jn.runW s ps).2 = 0))) ∧ RefAt w' r ra rb rc (Jn.runW s ps).1 ∧ JAt w' j r A Z q o ∧ Only [r, ra, rb, rc] w w' := by
  have HST := Lib.hid (staysR_ch P r ra rb rc ps)
  have HS : Hid (RpI w r ra rb rc j A Z q o (fun W => ChAt W P [r, ra, rb, rc] ps) s w) := Lib.hid ⟨h, hj, hrow, hjd, Only.refl _ _⟩
  have HP := Lib.hid hp
  clear h hj hrow hp hjd
  obtain ⟨n, hn⟩ : ∃ n, ps.length = n := ⟨_, rfl⟩
  have HN := Lib.hid hn
  rw [hn] at hl ⊢
  clear hn
  go_enter Tryz.func56, Tryz.ntmps56
  go_wp2_with fail
  go_loopw [5] (fun i wr => ∃ (k : Nat) (sk : Dk.St), k ≤ n ∧ i = .int .i64 k ∧ RpI w r ra rb rc j A Z q o (fun W => ChAt W P [r, ra, rb, rc] ps) sk wr ∧ Jn.runW s ps = Jn.runW sk (ps.drop k)) (fun i _ => n - (intOf i).toNat)
  case atStart => exact ⟨0, s, Nat.zero_le _, rfl, HS.out, rfl⟩
  case round =>
    obtain ⟨k, sk, hk, rfl, hput, hrun⟩ := hrel
    have HI := Lib.hid hput
    have HR := Lib.hid hrun
    clear hput hrun HS
    by_cases hlt : k < n
    · obtain ⟨x, hpk⟩ : ∃ x, ps[k]? = some x := ⟨_, List.getElem?_eq_getElem (by rw [HN.out]; exact hlt)⟩
      obtain ⟨b, off, rfl, hb, hnb, hc⟩ := HI.out.row (by rw [HN.out]; omega)
      have HC : Hid (wr.cell? ⟨b, off + k * 65, none⟩ = some (.int .i64 x.no) ∧ wr.rangeAt b (off + k * 65 + 1) (byteVals x.page)) := Lib.hid (chg_cells (hc k x hpk))
      have HPL := Lib.hid (HP.out x (List.mem_of_getElem? hpk))
      have HE : Hid (ps.drop k = x :: ps.drop (k + 1)) := Lib.hid (by obtain ⟨h1, h2⟩ := List.getElem?_eq_some_iff.1 hpk; rw [List.drop_eq_getElem_cons h1, h2])
      have HWR : Hid (∀ W, RpI w r ra rb rc j A Z q o (fun W => ChAt W (some ⟨b, off, none⟩) [r, ra, rb, rc] ps) sk W → Calls Tryz.prog 74 #[.pointer (some ⟨r, 0, none⟩), .int .i64 x.no, pageV x.page] W fun e w' => e = .returned (.int .i64 (Dk.writeE sk x.no)) ∧ RpI w r ra rb rc j A Z q o (fun W => ChAt W (some ⟨b, off, none⟩) [r, ra, rb, rc] ps) (Dk.write sk x.no x.page) w') := Lib.hid (fun W hW => (rwrite_any hW.disk _ x.page HPL.out).mono fun e w' ⟨g1, g2, g3⟩ => ⟨g1, hW.call HST.out g2 g3 (by simp)⟩)
      have HCK : Hid (∀ W s', RpI w r ra rb rc j A Z q o (fun W => ChAt W (some ⟨b, off, none⟩) [r, ra, rb, rc] ps) s' W → W.cell? ⟨b, off + k * 65, none⟩ = some (.int .i64 x.no) ∧ W.rangeAt b (off + k * 65 + 1) (byteVals x.page)) := Lib.hid (fun W s' hW => by
        obtain ⟨b', off', e, _, _, hc'⟩ := hW.row (by rw [HN.out]; omega)
        injection e with e
        injection e with e1 e2
        subst e1; subst e2
        exact chg_cells (hc' k x hpk))
      have hlt' : (k : Int) < (n : Int) := by omega
      clear hb hnb hc hpk
      have HB := Lib.hid (fun (W W' : World) (s' : Dk.St) (hW : RpI w r ra rb rc j A Z q o (fun W => ChAt W (some ⟨b, off, none⟩) [r, ra, rb, rc] ps) s' W) (hb : Below W.heap.size W W') => hW.belowR HST.out hb)
      go_wp2_with fail
      refine wp_region_noPanic ?_
      refine wp_region_held_drew (S := fun W => JAt W j r A Z q o ∧ W.cell? ⟨b, off + k * 65, none⟩ = some (.int .i64 x.no) ∧ W.rangeAt b (off + k * 65 + 1) (byteVals x.page)) (by kernel_rfl) ⟨HI.out.jr.below (Below.refl _ _).drew, HC.out.1, HC.out.2⟩ (fun hHeld => ?_)
      have HI2 := Lib.hid (HB.out _ _ _ HI.out (Below.refl _ _).drew)
      clear HI HC
      generalize wr.drew = w2 at HI2 hHeld ⊢
      refine take_at (i := 0) (d := some 12) (v := .pointer (some ⟨j, 0, none⟩)) rfl rfl (by kernel_rfl) (by kernel_rfl) (by kernel_rfl) (fun _ _ _ h => h) (Or.inl ⟨by kernel_rfl, ?_⟩) hHeld ?_
      · intro w hSw; have c0 := hSw.1.c0; clear hSw; go_simp
      (try simp only [Act.put, List.setIfInBounds_toArray, List.set_cons_zero, List.set_cons_succ])
      refine take_at (i := 1) (d := some 13) (v := .pointer (some ⟨j, 0, none⟩)) rfl rfl (by kernel_rfl) (by kernel_rfl) (by kernel_rfl) (fun _ _ _ h => h) (Or.inl ⟨by kernel_rfl, ?_⟩) hHeld ?_
      · intro w hSw; have c0 := hSw.1.c0; clear hSw; go_simp
      (try simp only [Act.put, List.setIfInBounds_toArray, List.set_cons_zero, List.set_cons_succ])
      refine take_at (i := 2) (d := some 14) (v := .pointer (some ⟨j, 0, none⟩)) rfl rfl (by kernel_rfl) (by kernel_rfl) (by kernel_rfl) (fun _ _ _ h => h) (Or.inl ⟨by kernel_rfl, ?_⟩) hHeld ?_
      · intro w hSw; have c0 := hSw.1.c0; clear hSw; go_simp
      (try simp only [Act.put, List.setIfInBounds_toArray, List.set_cons_zero, List.set_cons_succ])
      refine take_at (i := 3) (d := some 15) (v := .pointer (some ⟨r, 0, none⟩)) rfl rfl (by kernel_rfl) (by kernel_rfl) (by kernel_rfl) (fun _ _ _ h => h) (Or.inl ⟨by kernel_rfl, ?_⟩) hHeld ?_
      · intro w hSw; have c0 := hSw.1.c0; clear hSw; go_simp
      (try simp only [Act.put, List.setIfInBounds_toArray, List.set_cons_zero, List.set_cons_succ])
      refine take_at (i := 4) (d := some 16) (v := .slice (some ⟨b, off, none⟩) n c) rfl rfl (by kernel_rfl) (by kernel_rfl) (by kernel_rfl) (fun _ _ _ h => h) (Or.inl ⟨by kernel_rfl, ?_⟩) hHeld ?_
      · intro w hSw; have c0 := hSw.1.c0; clear hSw; go_simp
      (try simp only [Act.put, List.setIfInBounds_toArray, List.set_cons_zero, List.set_cons_succ])
      refine take_at (i := 5) (d := some 17) (v := .int .i64 (k : Int)) rfl rfl (by kernel_rfl) (by kernel_rfl) (by kernel_rfl) (fun _ _ _ h => h) (Or.inl ⟨by kernel_rfl, ?_⟩) hHeld ?_
      · intro w hSw; have c0 := hSw.1.c0; clear hSw; go_simp
      (try simp only [Act.put, List.setIfInBounds_toArray, List.set_cons_zero, List.set_cons_succ])
      refine take_at (i := 6) (d := some 18) (v := .pointer (some ⟨b, off + k * 65, none⟩)) rfl rfl (by kernel_rfl) (by kernel_rfl) (by kernel_rfl) (fun _ _ _ h => h) (Or.inl ⟨by kernel_rfl, ?_⟩) hHeld ?_
      · intro w hSw; have c0 := hSw.1.c0; clear hSw; go_simp
      (try simp only [Act.put, List.setIfInBounds_toArray, List.set_cons_zero, List.set_cons_succ])
      refine take_at (i := 7) (d := some 19) (v := .pointer (some ⟨b, off + k * 65, none⟩)) rfl rfl (by kernel_rfl) (by kernel_rfl) (by kernel_rfl) (fun _ _ _ h => h) (Or.inl ⟨by kernel_rfl, ?_⟩) hHeld ?_
      · intro w hSw; have c0 := hSw.1.c0; clear hSw; go_simp
      (try simp only [Act.put, List.setIfInBounds_toArray, List.set_cons_zero, List.set_cons_succ])
      refine take_at (i := 8) (d := some 20) (v := .int .i64 x.no) rfl rfl (by kernel_rfl) (by kernel_rfl) (by kernel_rfl) (fun _ _ _ h => h) (Or.inl ⟨by kernel_rfl, ?_⟩) hHeld ?_
      · intro w hSw; have c0 := hSw.1.c0; have cn := hSw.2.1; clear hSw; go_simp
      (try simp only [Act.put, List.setIfInBounds_toArray, List.set_cons_zero, List.set_cons_succ])
      refine take_at (i := 9) (d := some 21) (v := .slice (some ⟨b, off, none⟩) n c) rfl rfl (by kernel_rfl) (by kernel_rfl) (by kernel_rfl) (fun _ _ _ h => h) (Or.inl ⟨by kernel_rfl, ?_⟩) hHeld ?_
      · intro w hSw; have c0 := hSw.1.c0; clear hSw; go_simp
      (try simp only [Act.put, List.setIfInBounds_toArray, List.set_cons_zero, List.set_cons_succ])
      refine take_at (i := 10) (d := some 22) (v := .int .i64 (k : Int)) rfl rfl (by kernel_rfl) (by kernel_rfl) (by kernel_rfl) (fun _ _ _ h => h) (Or.inl ⟨by kernel_rfl, ?_⟩) hHeld ?_
      · intro w hSw; have c0 := hSw.1.c0; clear hSw; go_simp
      (try simp only [Act.put, List.setIfInBounds_toArray, List.set_cons_zero, List.set_cons_succ])
      refine take_at (i := 11) (d := some 23) (v := .pointer (some ⟨b, off + k * 65, none⟩)) rfl rfl (by kernel_rfl) (by kernel_rfl) (by kernel_rfl) (fun _ _ _ h => h) (Or.inl ⟨by kernel_rfl, ?_⟩) hHeld ?_
      · intro w hSw; have c0 := hSw.1.c0; clear hSw; go_simp
      (try simp only [Act.put, List.setIfInBounds_toArray, List.set_cons_zero, List.set_cons_succ])
      refine take_at (i := 12) (d := some 24) (v := .pointer (some ⟨b, off + k * 65 + 1, none⟩)) rfl rfl (by kernel_rfl) (by kernel_rfl) (by kernel_rfl) (fun _ _ _ h => h) (Or.inl ⟨by kernel_rfl, ?_⟩) hHeld ?_
      · intro w hSw; have c0 := hSw.1.c0; clear hSw; go_simp
      (try simp only [Act.put, List.setIfInBounds_toArray, List.set_cons_zero, List.set_cons_succ])
      refine take_at (i := 13) (d := some 25) (v := pageV x.page) rfl rfl (by kernel_rfl) (by kernel_rfl) (by kernel_rfl) (fun _ _ _ h => h) (yields_page (by kernel_rfl) (.tmp 24) rfl rfl HPL.out (fun _ hSw => hSw.2.2)) hHeld ?_
      (try simp only [Act.put, List.setIfInBounds_toArray, List.set_cons_zero, List.set_cons_succ])
      refine wpAnyH_ready (rs := [14]) (by kernel_rfl) (by simp) ?_
      refine AllReadyH.cons rfl (fun K hK => ?_) AllReadyH.nil
      go_simp
      (go_at_call 74; refine (HWR.out w2 HI2.out).mono ?_; rintro e w3 ⟨rfl, hI3⟩; have HI3 := Lib.hid hI3; have HC3 := Lib.hid (HCK.out w3 _ HI3.out); clear hI3)
      (try go_wp2_with fail)
      refine hK.out _ _ ⟨HI3.out.jr, HC3.out.1, HC3.out.2⟩ (fun hHeld => ?_)
      clear hK K
      (try simp only [Act.put, List.setIfInBounds_toArray, List.set_cons_zero, List.set_cons_succ])
      refine take_at (i := 15) (d := some 27) (v := .bool (Dk.writeE sk x.no != 0)) rfl rfl (by kernel_rfl) (by kernel_rfl) (by kernel_rfl) (fun _ _ _ h => h) (Or.inl ⟨by kernel_rfl, ?_⟩) hHeld ?_
      · intro w hSw; clear hSw; go_simp
      (try simp only [Act.put, List.setIfInBounds_toArray, List.set_cons_zero, List.set_cons_succ])
      refine wpAnyH_done (by kernel_rfl) ?_ _
      refine NoPanic.normal ?_
      clear HWR HCK HB
      by_cases hw : Dk.writeE sk x.no = 0
      · have HRW : Hid (Jn.runW s ps = Jn.runW (Dk.write sk x.no x.page) (ps.drop (k + 1))) := Lib.hid (by rw [HR.out, HE.out, runW_ok hw])
        rw [hw]
        clear hw
        go_wp2_with fail
        go_roundw
        case rel => exact ⟨k + 1, _, by omega, by go_num, HI3.out, HRW.out⟩
        case measure => simp [intOf]; omega
      · have HRW : Hid (Jn.runW s ps = (Dk.write sk x.no x.page, Dk.writeE sk x.no)) := Lib.hid (by rw [HR.out, HE.out, runW_bad hw])
        have hne2 : (Dk.writeE sk x.no == 0) = false := by simpa using hw
        have hne3 : (Dk.writeE sk x.no != 0) = true := by simpa using hw
        have HNE := Lib.hid hw
        generalize Dk.writeE sk x.no = E at hne2 hne3 HRW HNE ⊢
        clear hw
        go_wp2_with fail
        go_ret
        rw [HRW.out, decide_eq_false HNE.out]
        exact ⟨rfl, HI3.out.disk, HI3.out.jr, HI3.out.only⟩
    · obtain rfl : k = n := by omega
      have HRW : Hid (Jn.runW s ps = (Dk.flush sk, Dk.flushE sk)) := Lib.hid (by rw [HR.out, List.drop_of_length_le (by rw [HN.out]; omega)]; rfl)
      have c0 := HI.out.jr.c0
      have hkk : ¬ ((k : Int) < (k : Int)) := by omega
      go_wp2_with fail
      refine (rflush_any HI.out.disk).mono ?_
      rintro e W3 ⟨rfl, hd3, ho3⟩
      have HI3 := Lib.hid (HI.out.call HST.out hd3 ho3 (by simp))
      clear HI c0 hd3 ho3
      by_cases hw : Dk.flushE sk = 0
      · have HW0 := Lib.hid hw
        rw [hw]
        clear hw
        go_wp2_with fail
        go_ret
        rw [HRW.out, decide_eq_true HW0.out]
        exact ⟨rfl, HI3.out.disk, HI3.out.jr, HI3.out.only⟩
      · have hne2 : (Dk.flushE sk == 0) = false := by simpa using hw
        have HNE := Lib.hid hw
        clear hw
        generalize Dk.flushE sk = E at hne2 HNE HRW ⊢
        go_wp2_with fail
        go_ret
        rw [HRW.out, decide_eq_false HNE.out]
        exact ⟨rfl, HI3.out.disk, HI3.out.jr, HI3.out.only⟩
end Go.Proofs.YtppbiohjhnoagaaGreat

/-
  The contracts of the document's own journal: Lists, Room, may, total; the program's Room of any size.
-/
namespace Go.Proofs.YtppbiohjhnoagaaGreat
open Go.RowKit
open Dk (zeros zeros_length)
open Hd (Head rightB pageH)
open Jn (Chg)

def listN (n : Nat) : Nat := (n + 31) / 32
set_option maxRecDepth 100000 in
theorem rlists_any (n : Nat) (hn : n ≤ 1000) (w : World) : Calls Tryz.prog 52 #[.int .i64 (n : Int)] w fun e w' => e = .returned (.int .i64 (listN n : Int)) ∧ w = w' := by
  go_enter Tryz.func52, Tryz.ntmps52
  go_wp2
  go_loopw [3] (fun i wr => ∃ k : Nat, k ≤ listN n ∧ i = .int .i64 k ∧ wr = w) (fun i _ => listN n - (intOf i).toNat)
  case atStart => exact ⟨0, Nat.zero_le _, rfl, rfl⟩
  case round =>
    obtain ⟨k, hk, rfl, rfl⟩ := hrel
    unfold listN at hk
    by_cases hlt : k * 32 < n
    · have h1 : (k : Int) * 32 < (n : Int) := by omega
      go_wp2
      go_roundw
      case rel => exact ⟨k + 1, by unfold listN; omega, by go_num, trivial⟩
      case measure => simp [intOf, listN]; omega
    · have h1 : ¬ ((k : Int) * 32 < (n : Int)) := by omega
      go_wp2
      go_ret
      refine ⟨?_, rfl⟩
      have : k = listN n := by unfold listN; omega
      rw [← this]; rfl
theorem listN_one {n : Nat} (h1 : 1 ≤ n) (h2 : n ≤ 32) : listN n = 1 := by unfold listN; omega
/-- the greatest n that fits -/
def rN (z : Int) : Nat → Nat
  | 0 => 0
  | n + 1 => if 1 + (listN (n + 1) : Int) + ((n + 1 : Nat) : Int) ≤ z then n + 1 else rN z n
theorem rN_small (z : Int) (hz : z ≤ 2) : ∀ n, rN z n = 0
  | 0 => rfl
  | n + 1 => by
    rw [rN, if_neg (by unfold listN; omega)]
    exact rN_small z hz n
theorem rN_pos (z : Int) (hz : 3 ≤ z) : ∀ n, 1 ≤ n → 1 ≤ rN z n
  | 0, h => by omega
  | n + 1, _ => by
    rw [rN]
    split
    · omega
    · rename_i hc
      by_cases hn : n = 0
      · subst hn
        exact absurd (by unfold listN; omega) hc
      · exact rN_pos z hz n (by omega)
theorem rN_fit (z : Nat) (h3 : 3 ≤ z) (h20 : z ≤ 20) : ∀ n, z - 2 ≤ n → rN (z : Int) n = z - 2
  | 0, h => by omega
  | n + 1, h => by
    rw [rN]
    by_cases hn : n + 1 = z - 2
    · rw [if_pos (by unfold listN; omega)]; exact hn
    · rw [if_neg (by unfold listN; omega)]
      exact rN_fit z h3 h20 n (by omega)
theorem rN_le (z : Int) : ∀ n, rN z n ≤ n
  | 0 => Nat.le_refl _
  | n + 1 => by
    rw [rN]
    split
    · exact Nat.le_refl _
    · exact Nat.le_succ_of_le (rN_le z n)
set_option maxRecDepth 100000 in
set_option maxHeartbeats 1000000 in
theorem rroom_any (z : Int) (w : World) : Calls Tryz.prog 33 #[.int .i64 z] w fun e w' => e = .returned (.int .i64 (rN z 512 : Int)) ∧ w = w' := by
  go_enter Tryz.func33, Tryz.ntmps33
  go_wp2
  go_loopw [3, 4] (fun best i wr => ∃ k : Nat, k ≤ 512 ∧ best = .int .i64 (rN z k : Int) ∧ i = .int .i64 ((k + 1 : Nat) : Int) ∧ wr = w) (fun _ i _ => 513 - (intOf i).toNat)
  case atStart => exact ⟨0, by omega, rfl, rfl, rfl⟩
  case round =>
    obtain ⟨k, hk, rfl, rfl, rfl⟩ := hrel
    by_cases hlt : k < 512
    · have h1 : ((k + 1 : Nat) : Int) ≤ 512 := by omega
      have HL := Lib.hid (rlists_any (k + 1) (by omega) wr)
      have HRN : Hid (rN z (k + 1) = if 1 + (listN (k + 1) : Int) + ((k + 1 : Nat) : Int) ≤ z then k + 1 else rN z k) := Lib.hid rfl
      have h2 : listN (k + 1) ≤ 1000 := by unfold listN; omega
      generalize listN (k + 1) = L at HL h2 HRN
      obtain ⟨K, hK⟩ : ∃ K : Nat, k + 1 = K := ⟨_, rfl⟩
      have HK := Lib.hid hK
      rw [hK] at h1 HL HRN ⊢
      have hK2 : K ≤ 512 := by omega
      clear hK
      by_cases hc : 1 + (L : Int) + (K : Int) ≤ z
      · have HR2 : Hid (rN z K = K) := Lib.hid (by rw [HRN.out, if_pos hc])
        go_wp2_with (go_at_call 52; refine HL.out.mono ?_; rintro e w' ⟨rfl, rfl⟩)
        go_roundw
        case rel => exact ⟨K, hK2, by rw [HR2.out], by go_num, trivial⟩
        case measure => simp [intOf]; omega
      · have HR2 : Hid (rN z K = rN z k) := Lib.hid (by rw [HRN.out, if_neg hc])
        go_wp2_with (go_at_call 52; refine HL.out.mono ?_; rintro e w' ⟨rfl, rfl⟩)
        go_roundw
        case rel => exact ⟨K, hK2, by rw [HR2.out], by go_num, trivial⟩
        case measure => simp [intOf]; omega
    · obtain rfl : k = 512 := by omega
      go_wp2
      go_ret
      exact ⟨rfl, rfl⟩
/-! ### the program's Room -/
def jN (z : Int) : Int := if z ≤ 1 then 0 else if z ≤ 529 then (z - 1) - (z + 31) / 33 else 512
set_option maxRecDepth 100000 in
theorem jroom_any (z : Int) (w : World) : Calls Tryz.prog 46 #[.int .i64 z] w fun e w' => e = .returned (.int .i64 (jN z)) ∧ w = w' := by
  by_cases h1 : z ≤ 1
  · have HE : Hid (jN z = 0) := Lib.hid (by unfold jN; rw [if_pos h1])
    rw [HE.out]
    go_enter Tryz.func46, Tryz.ntmps46
    go_wp2
    go_ret
    exact ⟨ret_int (by omega), rfl⟩
  · by_cases h2 : z ≤ 529
    · have HE : Hid (jN z = (z - 1) - (z + 31) / 33) := Lib.hid (by unfold jN; rw [if_neg h1, if_pos h2])
      rw [HE.out]
      go_enter Tryz.func46, Tryz.ntmps46
      go_wp2
      go_ret
      exact ⟨ret_int (by omega), rfl⟩
    · have HE : Hid (jN z = 512) := Lib.hid (by unfold jN; rw [if_neg h1, if_neg h2])
      rw [HE.out]
      go_enter Tryz.func46, Tryz.ntmps46
      go_wp2
      go_ret
      exact ⟨ret_int (by omega), rfl⟩
theorem roomAny (z : Nat) (h3 : 3 ≤ z) (h20 : z ≤ 20) : RoomIs z (z - 2) := fun w => by
  have := jroom_any (z : Int) w
  have e : jN (z : Int) = ((z - 2 : Nat) : Int) := by unfold jN; rw [if_neg (by omega), if_pos (by omega)]; omega
  rw [e] at this
  exact this

/-! ### may -/
theorem RefAt.drewN {w : World} {r a b c : Nat} {s : Dk.St} (h : RefAt w r a b c s) (n : Nat) : RefAt (w.drewN n) r a b c s := h.blocks rfl rfl rfl rfl
set_option maxRecDepth 100000 in
set_option maxHeartbeats 2000000 in
theorem rmay_any {w : World} {r ra rb rc j A Z : Nat} {q : Int} {o : Bool} {s : Dk.St} (h : RefAt w r ra rb rc s) (hj : JAt w j r A Z q o) (hA : A ≤ 900) (hZ : Z ≤ 900) (i : Int) : Calls Tryz.prog 54 #[.pointer (some ⟨j, 0, none⟩), .int .i64 i] w fun e w' => e = .returned (.bool (otherB s.last.length A Z i)) ∧ Below w.heap.size w w' := by
  have c0 := hj.c0
  have c1 := hj.c1
  have c2 := hj.c2
  have d0 := h.c0
  have hA' : (A : Int) ≤ 900 := by omega
  have hZ' : (Z : Int) ≤ 900 := by omega
  have hsm := h.ok.small
  clear h hj
  generalize s.last.length = n at d0 hsm ⊢
  by_cases k1 : 0 ≤ i
  · by_cases k2 : i < (n : Int)
    · by_cases k3 : (A : Int) ≤ i
      · by_cases k4 : i < (A : Int) + (Z : Int)
        · have HE : Hid (otherB n A Z i = false) := Lib.hid (by unfold otherB; rw [decide_eq_false_iff_not]; omega)
          rw [HE.out]
          go_enter Tryz.func54, Tryz.ntmps54
          go_wp2_with fail
          go_quiet (fail)
          go_wp2
          go_ret
          exact ⟨rfl, ⟨rfl, rfl, rfl, Nat.le_refl _, fun _ _ => rfl⟩⟩
        · have k4' : decide (i < (A : Int) + (Z : Int)) = false := decide_eq_false k4
          have HE : Hid (otherB n A Z i = true) := Lib.hid (by unfold otherB; rw [decide_eq_true_iff]; omega)
          rw [HE.out]
          go_enter Tryz.func54, Tryz.ntmps54
          go_wp2_with fail
          go_quiet (fail)
          go_wp2
          go_ret
          exact ⟨rfl, ⟨rfl, rfl, rfl, Nat.le_refl _, fun _ _ => rfl⟩⟩
      · have k3' : decide ((A : Int) ≤ i) = false := decide_eq_false k3
        have HE : Hid (otherB n A Z i = true) := Lib.hid (by unfold otherB; rw [decide_eq_true_iff]; omega)
        rw [HE.out]
        go_enter Tryz.func54, Tryz.ntmps54
        go_wp2_with fail
        go_quiet (fail)
        go_wp2
        go_ret
        exact ⟨rfl, ⟨rfl, rfl, rfl, Nat.le_refl _, fun _ _ => rfl⟩⟩
    · have k2' : decide (i < (n : Int)) = false := decide_eq_false k2
      have HE : Hid (otherB n A Z i = false) := Lib.hid (by unfold otherB; rw [decide_eq_false_iff_not]; omega)
      rw [HE.out]
      go_enter Tryz.func54, Tryz.ntmps54
      go_wp2_with fail
      go_quiet (fail)
      go_wp2
      go_ret
      exact ⟨rfl, ⟨rfl, rfl, rfl, Nat.le_refl _, fun _ _ => rfl⟩⟩
  · have k1' : decide (0 ≤ i) = false := decide_eq_false k1
    have HE : Hid (otherB n A Z i = false) := Lib.hid (by unfold otherB; rw [decide_eq_false_iff_not]; omega)
    rw [HE.out]
    go_enter Tryz.func54, Tryz.ntmps54
    go_wp2_with fail
    go_quiet (fail)
    go_wp2
    go_ret
    exact ⟨rfl, ⟨rfl, rfl, rfl, Nat.le_refl _, fun _ _ => rfl⟩⟩

/-! ### total -/
theorem flatten_len : ∀ (ps : List (List UInt8)), (∀ p ∈ ps, p.length = 64) → ps.flatten.length = ps.length * 64
  | [], _ => rfl
  | p :: r, h => by
    rw [List.flatten_cons, List.length_append, flatten_len r (fun q hq => h q (by simp [hq])), h p (by simp), List.length_cons]; omega
set_option maxRecDepth 100000 in
set_option maxHeartbeats 2000000 in
theorem rtotal_any (P : Option Addr) (c : Nat) (ps : List (List UInt8)) (w : World) (hrow : PgAt w P [] ps) (hp : ∀ p ∈ ps, p.length = 64) (hl : ps.length ≤ 100) : Calls Tryz.prog 55 #[.slice P ps.length c] w fun e w' => e = .returned (.int .u32 (Jn.sumN ps)) ∧ Below w.heap.size w w' := by
  have HR := Lib.hid hrow
  have HP := Lib.hid hp
  clear hrow hp
  obtain ⟨n, hn⟩ : ∃ n, ps.length = n := ⟨_, rfl⟩
  have HN := Lib.hid hn
  rw [hn] at hl ⊢
  clear hn
  have HS0 : Hid ((⟨#[]⟩ : ByteArray) = strOf (ps.take 0).flatten) := Lib.hid (by simp [strOf])
  go_enter Tryz.func55, Tryz.ntmps55
  go_wp2_with fail
  go_loopw [3, 4] (fun sv i wr => ∃ k : Nat, k ≤ n ∧ i = .int .i64 k ∧ sv = .string (strOf (ps.take k).flatten) ∧ Below w.heap.size w wr) (fun _ i _ => n - (intOf i).toNat)
  case atStart => exact ⟨0, Nat.zero_le _, rfl, by rw [← HS0.out], Below.refl _ _⟩
  case round =>
    obtain ⟨k, hk, rfl, rfl, hbl⟩ := hrel
    have HB := Lib.hid hbl
    clear hbl HS0
    by_cases hlt : k < n
    · obtain ⟨p, hpk⟩ : ∃ p, ps[k]? = some p := ⟨_, List.getElem?_eq_getElem (by rw [HN.out]; exact hlt)⟩
      obtain ⟨b, off, rfl, hb, _, hc⟩ := HR.out (by rw [HN.out]; omega)
      have HC : Hid (wr.rangeAt b (off + k * 64) (byteVals p)) := Lib.hid (fun j v hv => (HB.out.cell (p := ⟨b, off + k * 64 + j, none⟩) hb).trans (hc k p hpk j v hv))
      have HPL := Lib.hid (HP.out p (List.mem_of_getElem? hpk))
      have HSN : Hid (strOf (ps.take k).flatten ++ strOf p = strOf (ps.take (k + 1)).flatten) := Lib.hid (by
        obtain ⟨h1, h2⟩ := List.getElem?_eq_some_iff.1 hpk
        rw [List.take_succ_eq_append_getElem h1, h2, List.flatten_append]
        unfold strOf
        apply ByteArray.ext
        simp [ByteArray.data_append])
      have HT : Hid (Calls Tryz.prog 72 #[pageV p, .int .i64 0, .int .i64 64] wr fun e w' => e = .returned (.string (strOf p)) ∧ Below wr.heap.size wr w') := Lib.hid (by
        have := refText_yes p 0 64 wr HPL.out (by omega)
        rw [List.drop_zero, List.take_of_length_le (by rw [HPL.out]; omega)] at this
        exact this)
      have hlt' : (k : Int) < (n : Int) := by omega
      have hsz : (strOf (ps.take k).flatten).size + (strOf p).size ≤ 9000 := by
        rw [strOf_size, strOf_size, HPL.out]
        have h1 : (ps.take k).flatten.length = (ps.take k).length * 64 := flatten_len _ (fun q hq => HP.out q (List.mem_of_mem_take hq))
        rw [h1, List.length_take]
        omega
      clear hb hc hpk
      generalize strOf (ps.take k).flatten = S at HSN hsz ⊢
      go_wp2_with (with_reducible refine wpList_load_at HC.out HPL.out rfl (.tmp 14) rfl rfl ?_)
      refine HT.out.mono ?_
      rintro e w2 ⟨rfl, hb2⟩
      have HB2 := Lib.hid (HB.out.trans (hb2.mono HB.out.size))
      clear hb2 HT HB
      generalize strOf p = T at HSN hsz ⊢
      go_wp2_with fail
      go_roundw
      case rel => exact ⟨k + 1, by omega, by go_num, by rw [← HSN.out], HB2.out⟩
      case measure => simp [intOf]; omega
    · obtain rfl : k = n := by omega
      have hkk : ¬ ((k : Int) < (k : Int)) := by omega
      have HM : Hid (Calls Tryz.prog 73 #[.int .u32 0, .string (strOf (ps.take k).flatten)] wr fun e w' => e = .returned (.int .u32 (Jn.sumN ps)) ∧ wr = w') := Lib.hid (by
        have h1 : (ps.take k) = ps := List.take_of_length_le (by rw [HN.out]; exact Nat.le_refl _)
        rw [h1]
        have := ref_any 0 (strOf ps.flatten) wr (Int.le_refl 0) (by omega) (by rw [strOf_size, flatten_len _ HP.out, HN.out]; unfold maxLen; omega)
        exact this)
      generalize strOf (ps.take k).flatten = S at HM ⊢
      go_wp2_with fail
      refine HM.out.mono ?_
      rintro e w' ⟨rfl, rfl⟩
      go_wp2_with fail
      go_ret
      exact ⟨rfl, HB.out⟩
end Go.Proofs.YtppbiohjhnoagaaGreat

/-
  The contract of the document's own lay.
-/
namespace Go.Proofs.YtppbiohjhnoagaaGreat
open Go.RowKit
open Dk (zeros zeros_length)
open Hd (Head rightB pageH)
open Jn (Chg)

set_option maxRecDepth 100000 in
set_option maxHeartbeats 4000000 in
theorem rlay_any {w : World} (A : Option Addr) (c : Nat) (cs : List Chg) (hrow : ChAt w A [] cs) (hp : ∀ x ∈ cs, x.page.length = 64) (h1 : 1 ≤ cs.length) (h2 : cs.length ≤ 32) :
    Calls Tryz.prog 62 #[.slice A cs.length c] w fun e w' => ∃ lb, e = .returned (.slice (some ⟨lb, 0, none⟩) (1 + cs.length) (1 + cs.length)) ∧ RowsAt w' lb (Jn.layN cs) ∧ w.heap.size ≤ lb ∧ lb < w'.heap.size ∧ Below w.heap.size w w' := by
  have HROW := Lib.hid hrow
  have HP := Lib.hid hp
  have HS := Lib.hid (rowsAt_new w (1 + cs.length) 38)
  rw [← lyK_zero] at HS
  clear hrow hp
  obtain ⟨n, hn⟩ : ∃ n, cs.length = n := ⟨_, rfl⟩
  have HN := Lib.hid hn
  rw [hn] at h1 h2 HS ⊢
  clear hn
  have HLS : Hid (∀ W, Calls Tryz.prog 52 #[.int .i64 (n : Int)] W fun e w' => e = .returned (.int .i64 1) ∧ W = w') := Lib.hid (fun W => by
    have := rlists_any n (by omega) W
    rw [listN_one h1 h2] at this
    exact this)
  have hmk := run_make_laid w n (by omega)
  have HB1 : Hid (Below w.heap.size w (w.alloc (.cells (zeroRow (1 + n)) 38))) := Lib.hid ((Below.refl _ _).alloc (Nat.le_refl _) _)
  have HLT1 : Hid (w.heap.size < (w.alloc (.cells (zeroRow (1 + n)) 38)).heap.size) := Lib.hid (by simp)
  go_enter Tryz.func62, Tryz.ntmps62
  go_wp2_with (go_at_call 52; refine (HLS.out _).mono ?_; rintro e w' ⟨rfl, rfl⟩)
  clear hmk HLS
  generalize w.alloc (.cells (zeroRow (1 + n)) 38) = w1 at HS HB1 HLT1 ⊢
  generalize hlb : w.heap.size = lb at HS HLT1 ⊢
  have HLB : Hid (w.heap.size ≤ lb) := Lib.hid (by omega)
  clear hlb
  go_loopw [5] (fun i wr => ∃ (k : Nat), k ≤ n ∧ i = .int .i64 k ∧ RowsAt wr lb (lyK cs k) ∧ lb < wr.heap.size ∧ Below w.heap.size w wr) (fun i _ => n - (intOf i).toNat)
  case atStart => exact ⟨0, Nat.zero_le _, rfl, HS.out, HLT1.out, HB1.out⟩
  case round =>
    obtain ⟨k, hk, rfl, htab, hltb, hbel⟩ := hrel
    have HT := Lib.hid htab
    have HL := Lib.hid hbel
    have HLT := Lib.hid hltb
    clear htab hbel hltb HS HB1 HLT1
    by_cases hlt : k < n
    · obtain ⟨x, hpk⟩ : ∃ x, cs[k]? = some x := ⟨_, List.getElem?_eq_getElem (by rw [HN.out]; exact hlt)⟩
      obtain ⟨b, off, rfl, hb, _, hc⟩ := HROW.out (by rw [HN.out]; omega)
      have HCX : Hid (∀ W, Below w.heap.size w W → W.cell? ⟨b, off + k * 65, none⟩ = some (.int .i64 x.no) ∧ W.rangeAt b (off + k * 65 + 1) (byteVals x.page)) := Lib.hid (fun W hW => chg_cells (rangeAt_block (hc k x hpk) (hW.block b hb)))
      have HPL := Lib.hid (HP.out x (List.mem_of_getElem? hpk))
      have HST := Lib.hid (lyK_step cs k x hpk)
      have HTL := Lib.hid (lyK_length cs k (by rw [HN.out]; exact hk))
      have HT0 : Hid ((lyK cs k)[0]? = some (Jn.lp cs k)) := Lib.hid rfl
      have HL0 := Lib.hid (Jn.lp_length cs k)
      have HSET := Lib.hid (fun (W : World) => refSet_any (Jn.lp cs k) ((k : Int) * 2) 2 x.no W HL0.out)
      have HPS := Lib.hid (Pg.setN_length (Jn.lp cs k) ((k : Int) * 2) 2 x.no HL0.out)
      have HNB : Hid (b ≠ lb) := Lib.hid (by have := HLB.out; omega)
      clear hb hc hpk
      generalize Jn.lp cs k = p0 at HST HT0 HL0 HSET HPS
      generalize Pg.setN p0 ((k : Int) * 2) 2 x.no = p1 at HST HSET HPS
      have hq1 : Int.tdiv (k : Int) 32 = 0 := by rw [Int.tdiv_eq_ediv_of_nonneg (by omega)]; omega
      have hq2 : Int.tmod (k : Int) 32 = (k : Int) := by rw [Int.tmod_eq_emod_of_nonneg (by omega)]; omega
      have hq3 : IntKind.i64.wrap ((k : Int) * 2) = (k : Int) * 2 := IntWalk.i64_in _ (by omega)
      have hq4 : IntKind.i64.wrap (k : Int) = (k : Int) := IntWalk.i64_in _ (by omega)
      have hq0 : IntKind.i64.wrap 0 = 0 := IntWalk.i64_in _ (by omega)
      have hn1 : (0 : Int) < 1 + (n : Int) := by omega
      have hn2 : 0 < 1 + n := by omega
      have hlt' : (k : Int) < (n : Int) := by omega
      go_wp2_with fail
      refine wp_region_noPanic ?_
      refine wp_region_held_drew (S := fun W => W.cell? ⟨b, off + k * 65, none⟩ = some (.int .i64 x.no)) (by kernel_rfl) (HCX.out _ HL.out.drew).1 (fun hHeld => ?_)
      have HT2 := Lib.hid (HT.out.block (w' := wr.drew) rfl)
      have HL2 := Lib.hid HL.out.drew
      have HLT2 : Hid (lb < wr.drew.heap.size) := Lib.hid HLT.out
      clear HT HL HLT
      generalize wr.drew = W3 at HT2 HL2 HLT2 hHeld ⊢
      refine take_at (i := 0) (d := some 20) (v := .slice (some ⟨lb, 0, none⟩) (1 + n) (1 + n)) rfl rfl (by kernel_rfl) (by kernel_rfl) (by kernel_rfl) (fun _ _ _ h => h) (Or.inl ⟨by kernel_rfl, ?_⟩) hHeld ?_
      · intro w hSw; go_simp
      (try simp only [Act.put, List.setIfInBounds_toArray, List.set_cons_zero, List.set_cons_succ])
      refine take_at (i := 1) (d := some 21) (v := .int .i64 (k : Int)) rfl rfl (by kernel_rfl) (by kernel_rfl) (by kernel_rfl) (fun _ _ _ h => h) (Or.inl ⟨by kernel_rfl, ?_⟩) hHeld ?_
      · intro w hSw; go_simp
      (try simp only [Act.put, List.setIfInBounds_toArray, List.set_cons_zero, List.set_cons_succ])
      refine take_at (i := 2) (d := some 22) (v := .int .i64 0) rfl rfl (by kernel_rfl) (by kernel_rfl) (by kernel_rfl) (fun _ _ _ h => h) (Or.inl ⟨by kernel_rfl, ?_⟩) hHeld ?_
      · intro w hSw; go_simp
      (try simp only [Act.put, List.setIfInBounds_toArray, List.set_cons_zero, List.set_cons_succ])
      refine take_at (i := 3) (d := some 23) (v := .slice (some ⟨lb, 0, none⟩) (1 + n) (1 + n)) rfl rfl (by kernel_rfl) (by kernel_rfl) (by kernel_rfl) (fun _ _ _ h => h) (Or.inl ⟨by kernel_rfl, ?_⟩) hHeld ?_
      · intro w hSw; go_simp
      (try simp only [Act.put, List.setIfInBounds_toArray, List.set_cons_zero, List.set_cons_succ])
      refine take_at (i := 4) (d := some 24) (v := .int .i64 (k : Int)) rfl rfl (by kernel_rfl) (by kernel_rfl) (by kernel_rfl) (fun _ _ _ h => h) (Or.inl ⟨by kernel_rfl, ?_⟩) hHeld ?_
      · intro w hSw; go_simp
      (try simp only [Act.put, List.setIfInBounds_toArray, List.set_cons_zero, List.set_cons_succ])
      refine take_at (i := 5) (d := some 25) (v := .int .i64 0) rfl rfl (by kernel_rfl) (by kernel_rfl) (by kernel_rfl) (fun _ _ _ h => h) (Or.inl ⟨by kernel_rfl, ?_⟩) hHeld ?_
      · intro w hSw; go_simp
      (try simp only [Act.put, List.setIfInBounds_toArray, List.set_cons_zero, List.set_cons_succ])
      refine take_at (i := 6) (d := some 26) (v := .pointer (some ⟨lb, 0, none⟩)) rfl rfl (by kernel_rfl) (by kernel_rfl) (by kernel_rfl) (fun _ _ _ h => h) (Or.inl ⟨by kernel_rfl, ?_⟩) hHeld ?_
      · intro w hSw; go_simp
      (try simp only [Act.put, List.setIfInBounds_toArray, List.set_cons_zero, List.set_cons_succ])
      refine take_at (i := 8) (d := some 28) (v := .int .i64 (k : Int)) rfl rfl (by kernel_rfl) (by kernel_rfl) (by kernel_rfl) (fun _ _ _ h => h) (Or.inl ⟨by kernel_rfl, ?_⟩) hHeld ?_
      · intro w hSw; go_simp
      (try simp only [Act.put, List.setIfInBounds_toArray, List.set_cons_zero, List.set_cons_succ])
      refine take_at (i := 9) (d := some 29) (v := .int .i64 (k : Int)) rfl rfl (by kernel_rfl) (by kernel_rfl) (by kernel_rfl) (fun _ _ _ h => h) (Or.inl ⟨by kernel_rfl, ?_⟩) hHeld ?_
      · intro w hSw; go_simp
      (try simp only [Act.put, List.setIfInBounds_toArray, List.set_cons_zero, List.set_cons_succ])
      refine take_at (i := 10) (d := some 30) (v := .int .i64 ((k : Int) * 2)) rfl rfl (by kernel_rfl) (by kernel_rfl) (by kernel_rfl) (fun _ _ _ h => h) (Or.inl ⟨by kernel_rfl, ?_⟩) hHeld ?_
      · intro w hSw; go_simp
      (try simp only [Act.put, List.setIfInBounds_toArray, List.set_cons_zero, List.set_cons_succ])
      refine take_at (i := 11) (d := some 31) (v := .slice (some ⟨b, off, none⟩) n c) rfl rfl (by kernel_rfl) (by kernel_rfl) (by kernel_rfl) (fun _ _ _ h => h) (Or.inl ⟨by kernel_rfl, ?_⟩) hHeld ?_
      · intro w hSw; go_simp
      (try simp only [Act.put, List.setIfInBounds_toArray, List.set_cons_zero, List.set_cons_succ])
      refine take_at (i := 12) (d := some 32) (v := .int .i64 (k : Int)) rfl rfl (by kernel_rfl) (by kernel_rfl) (by kernel_rfl) (fun _ _ _ h => h) (Or.inl ⟨by kernel_rfl, ?_⟩) hHeld ?_
      · intro w hSw; go_simp
      (try simp only [Act.put, List.setIfInBounds_toArray, List.set_cons_zero, List.set_cons_succ])
      refine take_at (i := 13) (d := some 33) (v := .pointer (some ⟨b, off + k * 65, none⟩)) rfl rfl (by kernel_rfl) (by kernel_rfl) (by kernel_rfl) (fun _ _ _ h => h) (Or.inl ⟨by kernel_rfl, ?_⟩) hHeld ?_
      · intro w hSw; go_simp
      (try simp only [Act.put, List.setIfInBounds_toArray, List.set_cons_zero, List.set_cons_succ])
      refine take_at (i := 14) (d := some 34) (v := .pointer (some ⟨b, off + k * 65, none⟩)) rfl rfl (by kernel_rfl) (by kernel_rfl) (by kernel_rfl) (fun _ _ _ h => h) (Or.inl ⟨by kernel_rfl, ?_⟩) hHeld ?_
      · intro w hSw; go_simp
      (try simp only [Act.put, List.setIfInBounds_toArray, List.set_cons_zero, List.set_cons_succ])
      refine take_at (i := 15) (d := some 35) (v := .int .i64 x.no) rfl rfl (by kernel_rfl) (by kernel_rfl) (by kernel_rfl) (fun _ _ _ h => h) (Or.inl ⟨by kernel_rfl, ?_⟩) hHeld ?_
      · intro w hSw; go_simp
      (try simp only [Act.put, List.setIfInBounds_toArray, List.set_cons_zero, List.set_cons_succ])
      refine anyH_load_row (i := 7) HT2.out 0 HT0.out (by kernel_rfl) rfl (by kernel_rfl) (.tmp 26) rfl rfl (some 27) rfl hHeld ?_
      (try simp only [Act.put, List.setIfInBounds_toArray, List.set_cons_zero, List.set_cons_succ])
      refine wpAnyH_ready (rs := [16]) (by kernel_rfl) (by simp) ?_
      refine AllReadyH.cons rfl (fun K hK => ?_) AllReadyH.nil
      go_simp
      (go_at_call 83; refine (HSET.out _).mono ?_; rintro e W4 ⟨rfl, hB4⟩; have HT4 := Lib.hid (HT2.out.below hB4 HLT2.out); have HL4 := Lib.hid (HL2.out.trans (hB4.mono HL2.out.size)); have HLT4 : Hid (lb < W4.heap.size) := Lib.hid (Nat.lt_of_lt_of_le HLT2.out hB4.size))
      (try go_wp2_with fail)
      refine hK.out _ _ (HCX.out _ HL4.out).1 (fun hHeld => ?_)
      clear hK K
      (try simp only [Act.put, List.setIfInBounds_toArray, List.set_cons_zero, List.set_cons_succ])
      refine take_at (i := 17) (d := some 37) (v := .pointer (some ⟨lb, 0, none⟩)) rfl rfl (by kernel_rfl) (by kernel_rfl) (by kernel_rfl) (fun _ _ _ h => h) (Or.inl ⟨by kernel_rfl, ?_⟩) hHeld ?_
      · intro w hSw; go_simp
      (try simp only [Act.put, List.setIfInBounds_toArray, List.set_cons_zero, List.set_cons_succ])
      refine anyH_store_row (i := 18) HT4.out 0 (by rw [HTL.out]; omega) HPS.out (by kernel_rfl) rfl (by kernel_rfl) (.tmp 37) (.tmp 36) rfl rfl rfl none rfl ((cell_setCells_far (W := W4) lb ⟨b, off + k * 65, none⟩ HNB.out _ _ _).trans hHeld) ?_
      (try simp only [Act.put])
      refine wpAnyH_done (by kernel_rfl) ?_ _
      refine NoPanic.normal ?_
      have HT5 := Lib.hid (HT4.out.put 0 (by rw [HTL.out]; omega) p1 HPS.out)
      have HL5 : Hid (Below w.heap.size w (W4.setCells lb (0 * 64) (byteVals p1))) := Lib.hid (below_setCells _ HLB.out _ _ _ HL4.out)
      have HLT5 : Hid (lb < (W4.setCells lb (0 * 64) (byteVals p1)).heap.size) := Lib.hid (by rw [heap_setCells]; exact HLT4.out)
      clear hq0 hq1 hq2 hq3 hq4 HT4 HL4 HLT4 HT2 HL2 HLT2 hHeld hB4
      generalize W4.setCells lb (0 * 64) (byteVals p1) = W5 at HT5 HL5 HLT5 ⊢
      have HVP := Lib.hid (HCX.out W5 HL5.out).2
      have HI : Hid (1 + k < ((lyK cs k).set 0 p1).length) := Lib.hid (by rw [List.length_set, HTL.out, HN.out]; omega)
      have hkn : (1 : Int) + (k : Int) < 1 + (n : Int) := by omega
      have hk0 : (0 : Int) ≤ 1 + (k : Int) := by omega
      have hkt : (1 + (k : Int)).toNat = 1 + k := by omega
      go_wp2_with (first
        | ((with_reducible refine wpList_load_at HVP.out HPL.out rfl (.tmp 45) rfl ?_ ?_); (exact rfl))
        | ((with_reducible refine wpList_store_row HT5.out (1 + k) HI.out HPL.out rfl (.tmp 47) (.tmp 46) rfl ?_ ?_ ?_); (exact rfl); (exact rfl)))
      have HT6 := Lib.hid (HT5.out.put (1 + k) HI.out x.page HPL.out)
      rw [HST.out] at HT6
      have HL6 : Hid (Below w.heap.size w (W5.setCells lb ((1 + k) * 64) (byteVals x.page))) := Lib.hid (below_setCells _ HLB.out _ _ _ HL5.out)
      have HLT6 : Hid (lb < (W5.setCells lb ((1 + k) * 64) (byteVals x.page)).heap.size) := Lib.hid (by rw [heap_setCells]; exact HLT5.out)
      go_roundw
      case rel => exact ⟨k + 1, by omega, by go_num, HT6.out, HLT6.out, HL6.out⟩
      case measure => simp [intOf]; omega
    · obtain rfl : k = n := by omega
      have HA : Hid (lyK cs k = Jn.layN cs) := Lib.hid (by rw [← HN.out]; exact lyK_all cs)
      rw [HA.out] at HT
      have hkk : ¬ ((k : Int) < (k : Int)) := by omega
      go_wp2_with fail
      go_ret
      exact ⟨lb, rfl, HT.out, HLB.out, HLT.out, HL.out⟩
end Go.Proofs.YtppbiohjhnoagaaGreat

/-
  The contract of the document's own mark: the next head is written, and flushed.
-/
namespace Go.Proofs.YtppbiohjhnoagaaGreat
open Go.RowKit
open Dk (zeros zeros_length)
open Hd (Head rightB pageH)
open Jn (Chg)

set_option maxRecDepth 100000 in
set_option maxHeartbeats 4000000 in
theorem rmark_any {w : World} {j r ra rb rc A Z : Nat} {q : Int} {o : Bool} {s : Dk.St} (hj : JAt w j r A Z q o) (h : RefAt w r ra rb rc s) (hjd : j ∉ [r, ra, rb, rc]) (hA : A ≤ 900) (live : Bool) (n sm : Int) (hr : rightB ⟨q, live, n, sm⟩ = true) (hs0 : 0 ≤ sm) (hs1 : sm < 4294967296) (hq0 : 0 ≤ q) (hq : q < 4294967296) :
    Calls Tryz.prog 51 #[.pointer (some ⟨j, 0, none⟩), .bool live, .int .i64 n, .int .u32 sm] w fun e w' => e = .returned (.bool (decide ((Jn.runW s [⟨(A : Int), pageH ⟨q, live, n, sm⟩⟩]).2 = 0))) ∧ RefAt w' r ra rb rc (Jn.runW s [⟨(A : Int), pageH ⟨q, live, n, sm⟩⟩]).1 ∧
      (∃ q', JAt w' j r A Z q' o ∧ ((Jn.runW s [⟨(A : Int), pageH ⟨q, live, n, sm⟩⟩]).2 = 0 → q' = q + 1)) ∧ Only [r, ra, rb, rc, j] w w' := by
  obtain ⟨hh, hhh⟩ : ∃ hh : Head, hh = ⟨q, live, n, sm⟩ := ⟨_, rfl⟩
  have HRT : Hid (rightB hh = true) := Lib.hid (by rw [hhh]; exact hr)
  have HPGE := Lib.hid (fun (W : World) => refPage_any hh W (by rw [hhh]; exact hs0) (by rw [hhh]; exact hs1))
  have HPL := Lib.hid (Hd.pageH_length hh)
  have HH0 := Lib.hid (headAt_new w hh 99)
  have hv : (headVals hh).toArray = #[.int .i64 q, .bool live, .int .i64 n, .int .u32 sm] := by rw [hhh]; rfl
  rw [hv] at HH0
  rw [← hhh]
  clear hhh hr hs0 hs1 hv
  have HJ0 : Hid (JAt (w.alloc (.cells #[.int .i64 q, .bool live, .int .i64 n, .int .u32 sm] 99)) j r A Z q o) := Lib.hid (hj.below ((Below.refl _ _).alloc (Nat.le_refl _) _))
  have HI0 := Lib.hid (h.alloc (.cells #[.int .i64 q, .bool live, .int .i64 n, .int .u32 sm] 99))
  have HO0 : Hid (Only [r, ra, rb, rc, j] w (w.alloc (.cells #[.int .i64 q, .bool live, .int .i64 n, .int .u32 sm] 99))) := Lib.hid ((Only.refl _ _).alloc _)
  have HBF : Hid (w.heap.size ∉ [r, ra, rb, rc]) := Lib.hid (by have := h.rlt; have := h.alt; have := h.blt; have := h.clt; simp; omega)
  have HJD := Lib.hid hjd
  have c3 := hj.c3
  clear hj h hjd
  generalize pageH hh = pg at HPGE HPL ⊢
  go_enter Tryz.func51, Tryz.ntmps51
  go_wp2_with fail
  clear c3
  generalize w.alloc (.cells #[.int .i64 q, .bool live, .int .i64 n, .int .u32 sm] 99) = w1 at HH0 HJ0 HI0 HO0 ⊢
  generalize w.heap.size = B at HH0 HBF ⊢
  have HH1 := HH0
  have HJ1 := HJ0
  have HI1 := HI0
  have HO1 := HO0
  clear HH0 HJ0 HI0 HO0
  refine wp_region_noPanic ?_
  refine wp_region_held_drew (S := fun W => JAt W j r A Z q o ∧ HeadAt W B hh) (by kernel_rfl) ⟨HJ1.out.below (Below.refl _ _).drew, HH1.out.drew⟩ (fun hHeld => ?_)
  have HI2 := Lib.hid HI1.out.drew
  have HJ2 := Lib.hid (HJ1.out.below (Below.refl _ _).drew)
  have HH2 := Lib.hid HH1.out.drew
  have HO2 := Lib.hid HO1.out.drew
  clear HI1 HJ1 HH1 HO1
  generalize w1.drew = w2 at HI2 HJ2 HH2 HO2 hHeld ⊢
  refine take_at (i := 0) (d := some 18) (v := headV hh) rfl rfl (by kernel_rfl) (by kernel_rfl) (by kernel_rfl) (fun _ _ _ h => h) (yields_head refT (by kernel_rfl) (.tmp 9) rfl rfl (fun _ hSw => hSw.2)) hHeld ?_
  (try simp only [Act.put, List.setIfInBounds_toArray, List.set_cons_zero, List.set_cons_succ])
  refine wpAnyH_ready (rs := [1]) (by kernel_rfl) (by simp) ?_
  refine AllReadyH.cons rfl (fun K hK => ?_) AllReadyH.nil
  go_simp
  (go_at_call 69; refine (refRight_yes hh _ HRT.out).mono ?_; rintro e w3 ⟨rfl, hb3⟩; have HI3 := Lib.hid (HI2.out.below hb3); have HJ3 := Lib.hid (HJ2.out.below hb3); have HH3 := Lib.hid (HH2.out.below hb3 HH2.out.lt); have HO3 := Lib.hid (HO2.out.trans (Only.below hb3)); clear hb3 HI2 HJ2 HH2 HO2)
  (try go_wp2_with fail)
  refine hK.out _ _ ⟨HJ3.out, HH3.out⟩ (fun hHeld => ?_)
  clear hK K
  (try simp only [Act.put, List.setIfInBounds_toArray, List.set_cons_zero, List.set_cons_succ])
  refine take_at (i := 2) (d := some 20) (v := .bool false) rfl rfl (by kernel_rfl) (by kernel_rfl) (by kernel_rfl) (fun _ _ _ h => h) (Or.inl ⟨by kernel_rfl, ?_⟩) hHeld ?_
  · intro w hSw; have c1 := hSw.1.c1; clear hSw; go_simp
  (try simp only [Act.put, List.setIfInBounds_toArray, List.set_cons_zero, List.set_cons_succ])
  refine take_at (i := 3) (d := some 21) (v := .bool false) rfl rfl (by kernel_rfl) (by kernel_rfl) (by kernel_rfl) (fun _ _ _ h => h) (Or.inl ⟨by kernel_rfl, ?_⟩) hHeld ?_
  · intro w hSw; have c1 := hSw.1.c1; clear hSw; go_simp
  (try simp only [Act.put, List.setIfInBounds_toArray, List.set_cons_zero, List.set_cons_succ])
  refine take_at (i := 4) (d := some 22) (v := .pointer (some ⟨j, 0, none⟩)) rfl rfl (by kernel_rfl) (by kernel_rfl) (by kernel_rfl) (fun _ _ _ h => h) (Or.inl ⟨by kernel_rfl, ?_⟩) hHeld ?_
  · intro w hSw; have c1 := hSw.1.c1; clear hSw; go_simp
  (try simp only [Act.put, List.setIfInBounds_toArray, List.set_cons_zero, List.set_cons_succ])
  refine take_at (i := 5) (d := some 23) (v := .pointer (some ⟨j, 0, none⟩)) rfl rfl (by kernel_rfl) (by kernel_rfl) (by kernel_rfl) (fun _ _ _ h => h) (Or.inl ⟨by kernel_rfl, ?_⟩) hHeld ?_
  · intro w hSw; have c1 := hSw.1.c1; clear hSw; go_simp
  (try simp only [Act.put, List.setIfInBounds_toArray, List.set_cons_zero, List.set_cons_succ])
  refine take_at (i := 6) (d := some 24) (v := .pointer (some ⟨j, 0, none⟩)) rfl rfl (by kernel_rfl) (by kernel_rfl) (by kernel_rfl) (fun _ _ _ h => h) (Or.inl ⟨by kernel_rfl, ?_⟩) hHeld ?_
  · intro w hSw; have c1 := hSw.1.c1; clear hSw; go_simp
  (try simp only [Act.put, List.setIfInBounds_toArray, List.set_cons_zero, List.set_cons_succ])
  refine take_at (i := 7) (d := some 25) (v := .pointer (some ⟨j, 1, none⟩)) rfl rfl (by kernel_rfl) (by kernel_rfl) (by kernel_rfl) (fun _ _ _ h => h) (Or.inl ⟨by kernel_rfl, ?_⟩) hHeld ?_
  · intro w hSw; have c1 := hSw.1.c1; clear hSw; go_simp
  (try simp only [Act.put, List.setIfInBounds_toArray, List.set_cons_zero, List.set_cons_succ])
  refine take_at (i := 8) (d := some 26) (v := .int .i64 (A : Int)) rfl rfl (by kernel_rfl) (by kernel_rfl) (by kernel_rfl) (fun _ _ _ h => h) (Or.inl ⟨by kernel_rfl, ?_⟩) hHeld ?_
  · intro w hSw; have c1 := hSw.1.c1; clear hSw; go_simp
  (try simp only [Act.put, List.setIfInBounds_toArray, List.set_cons_zero, List.set_cons_succ])
  refine take_at (i := 9) (d := some 27) (v := headV hh) rfl rfl (by kernel_rfl) (by kernel_rfl) (by kernel_rfl) (fun _ _ _ h => h) (yields_head refT (by kernel_rfl) (.tmp 9) rfl rfl (fun _ hSw => hSw.2)) hHeld ?_
  (try simp only [Act.put, List.setIfInBounds_toArray, List.set_cons_zero, List.set_cons_succ])
  refine wpAnyH_ready (rs := [10]) (by kernel_rfl) (by simp) ?_
  refine AllReadyH.cons rfl (fun K hK => ?_) AllReadyH.nil
  go_simp
  (go_at_call 70; refine (HPGE.out _).mono ?_; rintro e w4 ⟨rfl, hb4⟩; have HI4 := Lib.hid (HI3.out.below hb4); have HJ4 := Lib.hid (HJ3.out.below hb4); have HH4 := Lib.hid (HH3.out.below hb4 HH3.out.lt); have HO4 := Lib.hid (HO3.out.trans (Only.below hb4)); clear hb4 HI3 HJ3 HH3 HO3)
  (try go_wp2_with fail)
  refine hK.out _ _ ⟨HJ4.out, HH4.out⟩ (fun hHeld => ?_)
  clear hK K
  (try simp only [Act.put, List.setIfInBounds_toArray, List.set_cons_zero, List.set_cons_succ])
  refine anyH_buildPage (i := 11) HPL.out (by kernel_rfl) rfl (by kernel_rfl) (.tmp 28) rfl rfl (some 29) rfl ⟨hHeld.1.below ((Below.refl _ _).alloc (Nat.le_refl _) _), hHeld.2.alloc _⟩ (fun hHeld => ?_)
  (try simp only [Act.put, List.setIfInBounds_toArray, List.set_cons_zero, List.set_cons_succ])
  have HI5 := Lib.hid (HI4.out.alloc (.cells (byteVals pg).toArray 38))
  have HO5 : Hid (Only [r, ra, rb, rc, j] w (w4.alloc (.cells (byteVals pg).toArray 38))) := Lib.hid (HO4.out.alloc _)
  have HR5 : Hid (PgAt (w4.alloc (.cells (byteVals pg).toArray 38)) (some ⟨w4.heap.size, 0, none⟩) [r, ra, rb, rc] [pg]) := Lib.hid ((rows_one w4 pg HPL.out 38).slice (by have := HI4.out.rlt; have := HI4.out.alt; have := HI4.out.blt; have := HI4.out.clt; simp; omega))
  generalize (w4.alloc (.cells (byteVals pg).toArray 38)) = w5 at HI5 HO5 HR5 hHeld ⊢
  have HPT : Hid (Calls Tryz.prog 63 #[.pointer (some ⟨j, 0, none⟩), .int .i64 (A : Int), .slice (some ⟨w4.heap.size, 0, none⟩) 1 1] w5 fun e w' => e = .returned (.bool (decide ((Jn.runW s [⟨(A : Int), pg⟩]).2 = 0))) ∧ RefAt w' r ra rb rc (Jn.runW s [⟨(A : Int), pg⟩]).1 ∧ JAt w' j r A Z q o ∧ Only [r, ra, rb, rc] w5 w') := Lib.hid (rput_any HI5.out hHeld.1 HJD.out A _ 1 [pg] HR5.out (fun p hp => by rw [List.mem_singleton] at hp; subst hp; exact HPL.out) (by simp) (by omega))
  generalize w4.heap.size = LB at HPT ⊢
  refine wpAnyH_ready (rs := [12]) (by kernel_rfl) (by simp) ?_
  refine AllReadyH.cons rfl (fun K hK => ?_) AllReadyH.nil
  go_simp
  (go_at_call 63; refine HPT.out.mono ?_; rintro e w6 ⟨rfl, hd6, hj6, ho6⟩; have HI6 := Lib.hid hd6; have HJ6 := Lib.hid hj6; have HH6 := Lib.hid (RowAt.only hHeld.2 ho6 (HBF.out)); have HO6 := Lib.hid (HO5.out.trans (ho6.mono (by simp))); clear hd6 hj6 ho6)
  (try go_wp2_with fail)
  refine hK.out _ _ ⟨HJ6.out, HH6.out⟩ (fun hHeld => ?_)
  clear hK K
  (try simp only [Act.put, List.setIfInBounds_toArray, List.set_cons_zero, List.set_cons_succ])
  generalize hRR : Jn.runW s [⟨(A : Int), pg⟩] = RR at HI6
  have HRR := Lib.hid hRR
  clear hRR HPT
  refine take_at (i := 13) (d := some 31) (v := .bool (!decide (RR.2 = 0))) rfl rfl (by kernel_rfl) (by kernel_rfl) (by kernel_rfl) (fun _ _ _ h => h) (Or.inl ⟨by kernel_rfl, ?_⟩) hHeld ?_
  · intro w hSw; clear hSw; go_simp
  (try simp only [Act.put, List.setIfInBounds_toArray, List.set_cons_zero, List.set_cons_succ])
  refine take_at (i := 14) (d := some 32) (v := .bool (!decide (RR.2 = 0))) rfl rfl (by kernel_rfl) (by kernel_rfl) (by kernel_rfl) (fun _ _ _ h => h) (Or.inl ⟨by kernel_rfl, ?_⟩) hHeld ?_
  · intro w hSw; clear hSw; go_simp
  (try simp only [Act.put, List.setIfInBounds_toArray, List.set_cons_zero, List.set_cons_succ])
  refine wpAnyH_done (by kernel_rfl) ?_ _
  refine NoPanic.normal ?_
  by_cases h0 : RR.2 = 0
  · have HR0 := Lib.hid h0
    have hd : (!decide (RR.2 = 0)) = false := by rw [decide_eq_true h0]; rfl
    rw [hd]
    have c3 := HJ6.out.c3
    have f3 := HJ6.out.f 3 (by omega)
    clear h0 hd hHeld
    go_wp2_with fail
    go_ret
    rw [HRR.out, decide_eq_true HR0.out]
    refine ⟨rfl, ?_, ⟨_, HJ6.out.setSeq _, fun _ => rfl⟩, HO6.out.setCell (by simp) _⟩
    exact HI6.out.only (L := [j]) ((Only.refl [j] w6).setCell (p := ⟨j, 3, none⟩) (by simp) _) (fun e => HJD.out (by simp at e ⊢; omega)) (fun e => HJD.out (by simp at e ⊢; omega)) (fun e => HJD.out (by simp at e ⊢; omega)) (fun e => HJD.out (by simp at e ⊢; omega))
  · have HR0 := Lib.hid h0
    have hd : (!decide (RR.2 = 0)) = true := by rw [decide_eq_false h0]; rfl
    rw [hd]
    clear h0 hd hHeld
    go_wp2_with fail
    go_ret
    rw [HRR.out, decide_eq_false HR0.out]
    exact ⟨rfl, HI6.out, ⟨_, HJ6.out, fun e => absurd e HR0.out⟩, HO6.out⟩
end Go.Proofs.YtppbiohjhnoagaaGreat
