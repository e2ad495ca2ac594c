/-
  The contract of the document's own Put of a store.
-/
import Derived.Test.YtppbiohjhnoagaaGreatMre
import Derived.Test.YtppbiohjhnoagaaGreatMsc
import Derived.Test.YtppbiohjhnoagaaGreatMsd
namespace Go.Proofs.YtppbiohjhnoagaaGreat
open Go.RowKit
open Dk (zeros zeros_length)
open Jn (Chg)

set_option maxRecDepth 100000 in
set_option maxHeartbeats 8000000 in
theorem rput6S_any {w : World} {b : RBlk} {s : Sto} (h : RStAt w b s) (i : Int) (p : List UInt8) (hp : p.length = 64) : Calls Tryz.prog 11 #[.pointer (some ⟨b.v, 0, none⟩), .int .i64 i, pageV p] w fun e w' =>
    e = .returned (.int .i64 (sputE s i)) ∧ RStAt w' b (sput s i p) ∧ Only [b.v] w w' := by
  have HP := Lib.hid hp
  have HS0 := Lib.hid (rrAt_start h hp)
  have HR := Lib.hid (rmay6_any HS0.out.st i)
  have HSML := Lib.hid (chgs_small h.ok)
  unfold pageV
  by_cases c : sreachE s i = 0
  · obtain ⟨z1, z2⟩ := sreach_zero c
    have c3 := of_decide_eq_true z2
    obtain ⟨k, rfl⟩ := Int.eq_ofNat_of_zero_le c3.1
    have hk : k < s.dk.last.length := by omega
    rw [c] at HR
    obtain ⟨P1, c1, P2, c2', hsl⟩ := h.sl
    obtain ⟨q, hj, _⟩ := h.ja
    have HC0 := Lib.hid (fun (W : World) (hW : Below w.heap.size w W) => (hsl.below hW).v0)
    have HCV := Lib.hid (fun (W : World) (hW : Below w.heap.size w W) => (hsl.below hW).v1)
    have HCF : Hid (∀ W, Below w.heap.size w W → W.frozen? ⟨b.v, 1, none⟩ = false) := Lib.hid (fun W hW => by
      have := ((hsl.below hW).row.free 1 (by unfold rsVals; simp)).2
      rwa [Nat.zero_add] at this)
    have HJ2 := Lib.hid (fun (W : World) (hW : Below w.heap.size w W) => (hj.below hW).c2)
    have HPV : Hid (w.heap.size ≠ b.v) := Lib.hid (by have := h.lt b.v (by simp [RBlk.all]); omega)
    have HPUTS := Lib.hid (fun (W : World) (hW : Below w.heap.size w W) => rput6_any P1 c1 (chgs s.step) ((hsl.below hW).step.mono (by simp)) (chgs_pages h.ok.spg) (by have := HSML.out; omega) ⟨(k : Int), p⟩ hp)
    have HRM : Hid (∀ W, Calls Tryz.prog 33 #[.int .i64 (s.z : Int)] W fun e w' => e = .returned (.int .i64 (s.r : Int)) ∧ W = w') := Lib.hid (fun W => by
      have := rroom_any (s.z : Int) W
      rwa [rN_fit s.z h.z3 h.z20 512 (by have := h.z20; omega), ← h.r2] at this)
    have HPC : Hid (putL (chgs s.step) ⟨(k : Int), p⟩ = chgs (s.step.set k (some p))) := Lib.hid (put_chgs s.step k p (by rw [h.ok.slen]; exact hk))
    have HCL := Lib.hid (chgs_length s.step)
    have HST := Lib.hid (fun (W : World) (hW : Below w.heap.size w W) => (hsl.below hW).step.mono (L' := []) (by simp))
    by_cases f : (s.step.getD k none).isSome = false ∧ s.r ≤ cntO s.step
    · have HE : Hid (sputE s (k : Int) = 28) := Lib.hid (by unfold sputE; rw [if_pos c, Int.toNat_natCast, if_pos f])
      have HF : Hid (sput s (k : Int) p = s) := Lib.hid (by unfold sput; rw [HE.out, if_neg (by decide)])
      rw [HE.out, HF.out]
      have hn : s.step.getD k none = none := by
        have := f.1
        cases e : s.step.getD k none with
        | none => rfl
        | some x => rw [e] at this; cases this
      have HATS := Lib.hid (fun (W : World) (hW : Below w.heap.size w W) => rat_none P1 c1 s.step (HST.out W hW) (by have := HSML.out; omega) k hn)
      have hge : (s.r : Int) ≤ ((chgs s.step).length : Int) := by have := f.2; rw [HCL.out]; omega
      clear c z1 z2 c3 h hsl hj f hn hk HE HF HPC HCL HST
      generalize (chgs s.step).length = n1 at HCV HATS HPUTS hge
      · skip
        go_enter Tryz.func11, Tryz.ntmps11
        go_wp2_with fail
        refine HR.out.mono ?_
        rintro e w1 ⟨rfl, hB1⟩
        have HS1 := Lib.hid (HS0.out.next hB1)
        clear HR HS0 hB1
        have v0 : w1.cell? ⟨b.v, 0, none⟩ = some (.pointer (some ⟨b.j, 0, none⟩)) := HC0.out _ HS1.out.bel
        have v1 : w1.cell? ⟨b.v, 1, none⟩ = some (.slice P1 n1 c1) := HCV.out _ HS1.out.bel
        have j2 : w1.cell? ⟨b.j, 2, none⟩ = some (.int .i64 (s.z : Int)) := HJ2.out _ HS1.out.bel
        have HAT := Lib.hid (fun (n : Nat) => HATS.out (w1.drewN n) (HS1.out.next (below_drw w1 n)).bel)
        go_wp2_with fail
        go_quiet ((first
          | (go_at_call 32; refine Calls.quiet_of_same ((HAT.out _).mono fun e w' ⟨h1, h2⟩ => ⟨h1, h2.symm⟩))
          | (go_at_call 33; refine Calls.quiet_of_same ((HRM.out _).mono fun e w' ⟨h1, h2⟩ => ⟨h1, h2.symm⟩))))
        have HS4 := Lib.hid (HS1.out.next (below_drw w1 nq))
        clear HS1 v0 v1 j2 HAT
        generalize w1.drewN nq = w4 at HS4 ⊢
        go_wp2_with fail
        go_ret
        exact ⟨rfl, HS4.out.st, Only.below HS4.out.bel⟩

    · have HE : Hid (sputE s (k : Int) = 0) := Lib.hid (by unfold sputE; rw [if_pos c, Int.toNat_natCast, if_neg f])
      have HF : Hid (sput s (k : Int) p = { s with step := s.step.set k (some p) }) := Lib.hid (by unfold sput; rw [if_pos HE.out, Int.toNat_natCast])
      have HOK := Lib.hid (sput_ok h.ok hp z2 f)
      rw [HE.out, HF.out]
      cases g : s.step.getD k none with
      | some x =>
        obtain ⟨t, htl, htx⟩ := chgs_idx g
        have HATS := Lib.hid (fun (W : World) (hW : Below w.heap.size w W) => rat_idx P1 c1 s.step (HST.out W hW) (by have := HSML.out; omega) k t htx)
        have ht0 : decide ((t : Int) < 0) = false := decide_eq_false (by omega)
        clear c z1 z2 c3 h hsl hj f g hk HE HF htx htl HST
        generalize hn1 : (chgs s.step).length = n1 at HCV HATS HPUTS HCL
        clear hn1
        go_enter Tryz.func11, Tryz.ntmps11
        go_wp2_with fail
        refine HR.out.mono ?_
        rintro e w1 ⟨rfl, hB1⟩
        have HS1 := Lib.hid (HS0.out.next hB1)
        clear HR HS0 hB1
        have v0 : w1.cell? ⟨b.v, 0, none⟩ = some (.pointer (some ⟨b.j, 0, none⟩)) := HC0.out _ HS1.out.bel
        have v1 : w1.cell? ⟨b.v, 1, none⟩ = some (.slice P1 n1 c1) := HCV.out _ HS1.out.bel
        have j2 : w1.cell? ⟨b.j, 2, none⟩ = some (.int .i64 (s.z : Int)) := HJ2.out _ HS1.out.bel
        have HAT := Lib.hid (fun (n : Nat) => HATS.out (w1.drewN n) (HS1.out.next (below_drw w1 n)).bel)
        go_wp2_with fail
        go_quiet ((first
          | (go_at_call 32; refine Calls.quiet_of_same ((HAT.out _).mono fun e w' ⟨h1, h2⟩ => ⟨h1, h2.symm⟩))
          | (go_at_call 33; refine Calls.quiet_of_same ((HRM.out _).mono fun e w' ⟨h1, h2⟩ => ⟨h1, h2.symm⟩))))
        have HS4 := Lib.hid (HS1.out.next (below_drw w1 nq))
        clear HS1 v0 v1 j2 HAT
        generalize w1.drewN nq = w4 at HS4 ⊢
        go_wp2_with fail
        refine wp_region_noPanic ?_
        refine wp_region_held_drew (S := fun W => PageAt W w.heap.size p) (by kernel_rfl) HS4.out.page.drew (fun hHeld => ?_)
        have HS5 := Lib.hid (HS4.out.next (Below.refl _ _).drew)
        have v1 : w4.drew.cell? ⟨b.v, 1, none⟩ = some (.slice P1 n1 c1) := HCV.out _ HS5.out.bel
        have HPUT := Lib.hid (HPUTS.out w4.drew HS5.out.bel)
        clear HS4
        generalize w4.drew = w5 at HS5 v1 hHeld HPUT ⊢
        refine take_at (i := 0) (d := some 37) (v := .pointer (some ⟨b.v, 0, none⟩)) rfl rfl (by kernel_rfl) (by kernel_rfl) (by kernel_rfl) (fun _ _ _ h => h) (Or.inl ⟨by kernel_rfl, ?_⟩) hHeld ?_
        · intro w hSw; go_simp
        (try simp only [Act.put, List.setIfInBounds_toArray, List.set_cons_zero, List.set_cons_succ])
        refine take_at (i := 1) (d := some 38) (v := .pointer (some ⟨b.v, 0, none⟩)) rfl rfl (by kernel_rfl) (by kernel_rfl) (by kernel_rfl) (fun _ _ _ h => h) (Or.inl ⟨by kernel_rfl, ?_⟩) hHeld ?_
        · intro w hSw; go_simp
        (try simp only [Act.put, List.setIfInBounds_toArray, List.set_cons_zero, List.set_cons_succ])
        refine take_at (i := 2) (d := some 39) (v := .pointer (some ⟨b.v, 0, none⟩)) rfl rfl (by kernel_rfl) (by kernel_rfl) (by kernel_rfl) (fun _ _ _ h => h) (Or.inl ⟨by kernel_rfl, ?_⟩) hHeld ?_
        · intro w hSw; go_simp
        (try simp only [Act.put, List.setIfInBounds_toArray, List.set_cons_zero, List.set_cons_succ])
        refine take_at (i := 3) (d := some 40) (v := .pointer (some ⟨b.v, 1, none⟩)) rfl rfl (by kernel_rfl) (by kernel_rfl) (by kernel_rfl) (fun _ _ _ h => h) (Or.inl ⟨by kernel_rfl, ?_⟩) hHeld ?_
        · intro w hSw; go_simp
        (try simp only [Act.put, List.setIfInBounds_toArray, List.set_cons_zero, List.set_cons_succ])
        refine take_at (i := 5) (d := some 42) (v := .int .i64 (k : Int)) rfl rfl (by kernel_rfl) (by kernel_rfl) (by kernel_rfl) (fun _ _ _ h => h) (Or.inl ⟨by kernel_rfl, ?_⟩) hHeld ?_
        · intro w hSw; go_simp
        (try simp only [Act.put, List.setIfInBounds_toArray, List.set_cons_zero, List.set_cons_succ])
        refine take_at (i := 6) (d := some 43) (v := pageV p) rfl rfl (by kernel_rfl) (by kernel_rfl) (by kernel_rfl) (fun _ _ _ h => h) (yields_page (by kernel_rfl) (.tmp 5) rfl rfl HP.out (fun _ hSw => (PageAt.range hSw))) hHeld ?_
        (try simp only [Act.put, List.setIfInBounds_toArray, List.set_cons_zero, List.set_cons_succ])
        refine take_at (i := 7) (d := some 44) (v := chgV ⟨(k : Int), p⟩) rfl rfl (by kernel_rfl) (by kernel_rfl) (by kernel_rfl) (fun _ _ _ h => h) (Or.inl ⟨by kernel_rfl, ?_⟩) hHeld ?_
        · intro w hSw; exact exec_buildRchg ⟨(k : Int), p⟩ HP.out (.tmp 42) (.tmp 43) rfl rfl rfl
        (try simp only [Act.put, List.setIfInBounds_toArray, List.set_cons_zero, List.set_cons_succ])
        refine wpAnyH_ready (rs := [4]) (by kernel_rfl) (by simp) ?_
        refine AllReadyH.cons rfl (fun K hK => ?_) AllReadyH.nil
        go_simp
        refine hK.out _ _ hHeld (fun hHeld => ?_)
        clear hK K
        (try simp only [Act.put, List.setIfInBounds_toArray, List.set_cons_zero, List.set_cons_succ])
        refine wpAnyH_ready (rs := [8]) (by kernel_rfl) (by simp) ?_
        refine AllReadyH.cons rfl (fun K hK => ?_) AllReadyH.nil
        go_simp
        (go_at_call 34; refine HPUT.out.mono ?_; rintro e w6 ⟨P', c', rfl, hch6, hB6⟩; have HCH := Lib.hid hch6; have HS6 := Lib.hid (HS5.out.next hB6); clear hch6 hB6 HPUT)
        (try go_wp2_with fail)
        refine hK.out _ _ HS6.out.page (fun hHeld => ?_)
        clear hK K
        (try simp only [Act.put, List.setIfInBounds_toArray, List.set_cons_zero, List.set_cons_succ])
        refine take_at (i := 9) (d := some 46) (v := .pointer (some ⟨b.v, 0, none⟩)) rfl rfl (by kernel_rfl) (by kernel_rfl) (by kernel_rfl) (fun _ _ _ h => h) (Or.inl ⟨by kernel_rfl, ?_⟩) hHeld ?_
        · intro w hSw; go_simp
        (try simp only [Act.put, List.setIfInBounds_toArray, List.set_cons_zero, List.set_cons_succ])
        refine take_at (i := 10) (d := some 47) (v := .pointer (some ⟨b.v, 1, none⟩)) rfl rfl (by kernel_rfl) (by kernel_rfl) (by kernel_rfl) (fun _ _ _ h => h) (Or.inl ⟨by kernel_rfl, ?_⟩) hHeld ?_
        · intro w hSw; go_simp
        (try simp only [Act.put, List.setIfInBounds_toArray, List.set_cons_zero, List.set_cons_succ])
        clear v1
        have v1 : w6.cell? ⟨b.v, 1, none⟩ = some (.slice P1 n1 c1) := HCV.out _ HS6.out.bel
        have f1 : w6.frozen? ⟨b.v, 1, none⟩ = false := HCF.out _ HS6.out.bel
        refine wpAnyH_ready (rs := [11]) (by kernel_rfl) (by simp) ?_
        refine AllReadyH.cons rfl (fun K hK => ?_) AllReadyH.nil
        go_simp
        refine hK.out _ _ (HS6.out.page.set_other _ _ _ HPV.out) (fun hHeld => ?_)
        clear hK K
        (try simp only [Act.put])
        refine wpAnyH_done (by kernel_rfl) ?_ _
        refine NoPanic.normal ?_
        have HF6 : Hid (RStAt (w6.setCell ⟨b.v, 1, none⟩ (.slice P' (putL (chgs s.step) ⟨(k : Int), p⟩).length c')) b { s with step := s.step.set k (some p) }) := Lib.hid (by
          have hc := HCH.out b.far HS5.out.st.ltf
          rw [HPC.out] at hc ⊢
          exact HS6.out.st.setStep hc HOK.out)
        have HO6 : Hid (Only [b.v] w (w6.setCell ⟨b.v, 1, none⟩ (.slice P' (putL (chgs s.step) ⟨(k : Int), p⟩).length c'))) := Lib.hid ((Only.below (l := [b.v]) HS6.out.bel).setCell (p := ⟨b.v, 1, none⟩) (by simp) _)
        clear f1 v1 hHeld
        go_wp2_with fail
        go_ret
        exact ⟨rfl, HF6.out, HO6.out⟩

      | none =>
        have HATS := Lib.hid (fun (W : World) (hW : Below w.heap.size w W) => rat_none P1 c1 s.step (HST.out W hW) (by have := HSML.out; omega) k g)
        have hge : ¬ ((s.r : Int) ≤ ((chgs s.step).length : Int)) := by
          have : ¬ s.r ≤ cntO s.step := fun q => f ⟨by rw [g]; rfl, q⟩
          rw [HCL.out]; omega
        clear c z1 z2 c3 h hsl hj f g hk HE HF HST
        generalize hn1 : (chgs s.step).length = n1 at HCV HATS HPUTS HCL hge
        clear hn1
        have hg1 : decide ((s.r : Int) ≤ (n1 : Int)) = false := decide_eq_false hge
        have hg2 : decide (s.r ≤ n1) = false := decide_eq_false (by omega)
        go_enter Tryz.func11, Tryz.ntmps11
        go_wp2_with fail
        refine HR.out.mono ?_
        rintro e w1 ⟨rfl, hB1⟩
        have HS1 := Lib.hid (HS0.out.next hB1)
        clear HR HS0 hB1
        have v0 : w1.cell? ⟨b.v, 0, none⟩ = some (.pointer (some ⟨b.j, 0, none⟩)) := HC0.out _ HS1.out.bel
        have v1 : w1.cell? ⟨b.v, 1, none⟩ = some (.slice P1 n1 c1) := HCV.out _ HS1.out.bel
        have j2 : w1.cell? ⟨b.j, 2, none⟩ = some (.int .i64 (s.z : Int)) := HJ2.out _ HS1.out.bel
        have HAT := Lib.hid (fun (n : Nat) => HATS.out (w1.drewN n) (HS1.out.next (below_drw w1 n)).bel)
        go_wp2_with fail
        go_quiet ((first
          | (go_at_call 32; refine Calls.quiet_of_same ((HAT.out _).mono fun e w' ⟨h1, h2⟩ => ⟨h1, h2.symm⟩))
          | (go_at_call 33; refine Calls.quiet_of_same ((HRM.out _).mono fun e w' ⟨h1, h2⟩ => ⟨h1, h2.symm⟩))))
        have HS4 := Lib.hid (HS1.out.next (below_drw w1 nq))
        clear HS1 v0 v1 j2 HAT
        generalize w1.drewN nq = w4 at HS4 ⊢
        go_wp2_with fail
        refine wp_region_noPanic ?_
        refine wp_region_held_drew (S := fun W => PageAt W w.heap.size p) (by kernel_rfl) HS4.out.page.drew (fun hHeld => ?_)
        have HS5 := Lib.hid (HS4.out.next (Below.refl _ _).drew)
        have v1 : w4.drew.cell? ⟨b.v, 1, none⟩ = some (.slice P1 n1 c1) := HCV.out _ HS5.out.bel
        have HPUT := Lib.hid (HPUTS.out w4.drew HS5.out.bel)
        clear HS4
        generalize w4.drew = w5 at HS5 v1 hHeld HPUT ⊢
        refine take_at (i := 0) (d := some 37) (v := .pointer (some ⟨b.v, 0, none⟩)) rfl rfl (by kernel_rfl) (by kernel_rfl) (by kernel_rfl) (fun _ _ _ h => h) (Or.inl ⟨by kernel_rfl, ?_⟩) hHeld ?_
        · intro w hSw; go_simp
        (try simp only [Act.put, List.setIfInBounds_toArray, List.set_cons_zero, List.set_cons_succ])
        refine take_at (i := 1) (d := some 38) (v := .pointer (some ⟨b.v, 0, none⟩)) rfl rfl (by kernel_rfl) (by kernel_rfl) (by kernel_rfl) (fun _ _ _ h => h) (Or.inl ⟨by kernel_rfl, ?_⟩) hHeld ?_
        · intro w hSw; go_simp
        (try simp only [Act.put, List.setIfInBounds_toArray, List.set_cons_zero, List.set_cons_succ])
        refine take_at (i := 2) (d := some 39) (v := .pointer (some ⟨b.v, 0, none⟩)) rfl rfl (by kernel_rfl) (by kernel_rfl) (by kernel_rfl) (fun _ _ _ h => h) (Or.inl ⟨by kernel_rfl, ?_⟩) hHeld ?_
        · intro w hSw; go_simp
        (try simp only [Act.put, List.setIfInBounds_toArray, List.set_cons_zero, List.set_cons_succ])
        refine take_at (i := 3) (d := some 40) (v := .pointer (some ⟨b.v, 1, none⟩)) rfl rfl (by kernel_rfl) (by kernel_rfl) (by kernel_rfl) (fun _ _ _ h => h) (Or.inl ⟨by kernel_rfl, ?_⟩) hHeld ?_
        · intro w hSw; go_simp
        (try simp only [Act.put, List.setIfInBounds_toArray, List.set_cons_zero, List.set_cons_succ])
        refine take_at (i := 5) (d := some 42) (v := .int .i64 (k : Int)) rfl rfl (by kernel_rfl) (by kernel_rfl) (by kernel_rfl) (fun _ _ _ h => h) (Or.inl ⟨by kernel_rfl, ?_⟩) hHeld ?_
        · intro w hSw; go_simp
        (try simp only [Act.put, List.setIfInBounds_toArray, List.set_cons_zero, List.set_cons_succ])
        refine take_at (i := 6) (d := some 43) (v := pageV p) rfl rfl (by kernel_rfl) (by kernel_rfl) (by kernel_rfl) (fun _ _ _ h => h) (yields_page (by kernel_rfl) (.tmp 5) rfl rfl HP.out (fun _ hSw => (PageAt.range hSw))) hHeld ?_
        (try simp only [Act.put, List.setIfInBounds_toArray, List.set_cons_zero, List.set_cons_succ])
        refine take_at (i := 7) (d := some 44) (v := chgV ⟨(k : Int), p⟩) rfl rfl (by kernel_rfl) (by kernel_rfl) (by kernel_rfl) (fun _ _ _ h => h) (Or.inl ⟨by kernel_rfl, ?_⟩) hHeld ?_
        · intro w hSw; exact exec_buildRchg ⟨(k : Int), p⟩ HP.out (.tmp 42) (.tmp 43) rfl rfl rfl
        (try simp only [Act.put, List.setIfInBounds_toArray, List.set_cons_zero, List.set_cons_succ])
        refine wpAnyH_ready (rs := [4]) (by kernel_rfl) (by simp) ?_
        refine AllReadyH.cons rfl (fun K hK => ?_) AllReadyH.nil
        go_simp
        refine hK.out _ _ hHeld (fun hHeld => ?_)
        clear hK K
        (try simp only [Act.put, List.setIfInBounds_toArray, List.set_cons_zero, List.set_cons_succ])
        refine wpAnyH_ready (rs := [8]) (by kernel_rfl) (by simp) ?_
        refine AllReadyH.cons rfl (fun K hK => ?_) AllReadyH.nil
        go_simp
        (go_at_call 34; refine HPUT.out.mono ?_; rintro e w6 ⟨P', c', rfl, hch6, hB6⟩; have HCH := Lib.hid hch6; have HS6 := Lib.hid (HS5.out.next hB6); clear hch6 hB6 HPUT)
        (try go_wp2_with fail)
        refine hK.out _ _ HS6.out.page (fun hHeld => ?_)
        clear hK K
        (try simp only [Act.put, List.setIfInBounds_toArray, List.set_cons_zero, List.set_cons_succ])
        refine take_at (i := 9) (d := some 46) (v := .pointer (some ⟨b.v, 0, none⟩)) rfl rfl (by kernel_rfl) (by kernel_rfl) (by kernel_rfl) (fun _ _ _ h => h) (Or.inl ⟨by kernel_rfl, ?_⟩) hHeld ?_
        · intro w hSw; go_simp
        (try simp only [Act.put, List.setIfInBounds_toArray, List.set_cons_zero, List.set_cons_succ])
        refine take_at (i := 10) (d := some 47) (v := .pointer (some ⟨b.v, 1, none⟩)) rfl rfl (by kernel_rfl) (by kernel_rfl) (by kernel_rfl) (fun _ _ _ h => h) (Or.inl ⟨by kernel_rfl, ?_⟩) hHeld ?_
        · intro w hSw; go_simp
        (try simp only [Act.put, List.setIfInBounds_toArray, List.set_cons_zero, List.set_cons_succ])
        clear v1
        have v1 : w6.cell? ⟨b.v, 1, none⟩ = some (.slice P1 n1 c1) := HCV.out _ HS6.out.bel
        have f1 : w6.frozen? ⟨b.v, 1, none⟩ = false := HCF.out _ HS6.out.bel
        refine wpAnyH_ready (rs := [11]) (by kernel_rfl) (by simp) ?_
        refine AllReadyH.cons rfl (fun K hK => ?_) AllReadyH.nil
        go_simp
        refine hK.out _ _ (HS6.out.page.set_other _ _ _ HPV.out) (fun hHeld => ?_)
        clear hK K
        (try simp only [Act.put])
        refine wpAnyH_done (by kernel_rfl) ?_ _
        refine NoPanic.normal ?_
        have HF6 : Hid (RStAt (w6.setCell ⟨b.v, 1, none⟩ (.slice P' (putL (chgs s.step) ⟨(k : Int), p⟩).length c')) b { s with step := s.step.set k (some p) }) := Lib.hid (by
          have hc := HCH.out b.far HS5.out.st.ltf
          rw [HPC.out] at hc ⊢
          exact HS6.out.st.setStep hc HOK.out)
        have HO6 : Hid (Only [b.v] w (w6.setCell ⟨b.v, 1, none⟩ (.slice P' (putL (chgs s.step) ⟨(k : Int), p⟩).length c'))) := Lib.hid ((Only.below (l := [b.v]) HS6.out.bel).setCell (p := ⟨b.v, 1, none⟩) (by simp) _)
        clear f1 v1 hHeld
        go_wp2_with fail
        go_ret
        exact ⟨rfl, HF6.out, HO6.out⟩

  · have HE : Hid (sputE s i = sreachE s i) := Lib.hid (by unfold sputE; rw [if_neg c])
    have HF : Hid (sput s i p = s) := Lib.hid (by unfold sput; rw [HE.out, if_neg c])
    rw [HE.out, HF.out]
    have hne : (sreachE s i == 0) = false := by simpa using c
    have hne2 : (sreachE s i != 0) = true := by simpa using c
    generalize sreachE s i = E at HR hne hne2 ⊢
    clear c h HE HF
    go_enter Tryz.func11, Tryz.ntmps11
    go_wp2_with fail
    refine HR.out.mono ?_
    rintro e w1 ⟨rfl, hB1⟩
    have HS1 := Lib.hid (HS0.out.next hB1)
    clear HR HS0 hB1
    go_wp2_with fail
    go_ret
    exact ⟨rfl, HS1.out.st, Only.below HS1.out.bel⟩
end Go.Proofs.YtppbiohjhnoagaaGreat

/-
  The contracts of the document's own Sync and Keep of a store.
-/
namespace Go.Proofs.YtppbiohjhnoagaaGreat
open Go.RowKit
open Dk (zeros zeros_length)
open Jn (Chg)

theorem rcommit_call {w : World} {b : RBlk} {s : Sto} (h : RStAt w b s) (ho : s.over = false) (hq0 : 0 ≤ s.q) (hq1 : s.q < 4294967280) (h05 : ¬ cntO s.group = 0 → (srun s).2 = 0 ∨ (srun s).2 = 5) (P : Option Addr) (c : Nat) (hc : ChAt w P b.far (chgs s.group)) :
    Calls Tryz.prog 41 #[.pointer (some ⟨b.j, 0, none⟩), .slice P (chgs s.group).length c] w fun e w' => e = .returned (.int .i64 (ssyncE s)) ∧ RStAt w' b (smid s) ∧ Only [b.r, b.ra, b.rb, b.rc, b.j] w w' := by
  obtain ⟨q, hj, hq⟩ := h.ja
  have hqq := hq ho
  subst hqq
  rw [ho] at hj
  have ne := RBlk.ne h.nd
  have hnn : ¬ s.over = true := by rw [ho]; simp
  have hR : Jn.runs s.dk [Jn.layAt (s.a + 1) (Jn.layN (chgs s.group)), [⟨(s.a : Int), Hd.pageH (Jn.liveH (s.q + 1) (chgs s.group))⟩], chgs s.group, [⟨(s.a : Int), Hd.pageH (Jn.quietH (s.q + 1 + 1))⟩]] = srun s := by
    rw [show s.q + 1 + 1 = s.q + 2 by omega]; rfl
  have hmm : ∀ x ∈ chgs s.group, otherB s.dk.last.length s.a s.z x.no = true ∧ x.page.length = 64 := fun x hx => by
    obtain ⟨k, h1, h2⟩ := chgs_mem.1 hx
    have := h.ok.gpg k _ h2
    rw [h1]
    exact ⟨this.2, this.1⟩
  have hC := rcommit_any h.disk hj ne.2.2.1 h.ok.a9 h.z3 h.z20 P c (chgs s.group) (hc.mono (by simp [RBlk.far, RBlk.all])) hmm (chgs_pw _) (by rw [chgs_length, ← h.r2]; exact h.ok.gcnt) (by omega) (by omega) (srun s) hR
  have hcok := scommit_ok h.ok
  have hse : ¬ cntO s.group = 0 → ssyncE s = (srun s).2 := fun hz => by unfold ssyncE; rw [if_neg hnn, if_neg hz]
  have hsm : smid s = if cntO s.group = 0 then s else { s with dk := (srun s).1, over := (srun s).2 != 0, q := s.q + 2 } := rfl
  unfold scommit at hcok
  rw [hsm]
  obtain ⟨P1, c1, P2, c2, hr, h1, h2⟩ := h.row
  generalize srun s = R at *
  refine hC.mono ?_
  rintro e w' (⟨hn, rfl, hI⟩ | ⟨hn, hcase⟩)
  · rw [chgs_length] at hn
    rw [if_pos hn]
    refine ⟨by unfold ssyncE; rw [if_neg hnn, if_pos hn], ?_, hI.only⟩
    exact ⟨⟨P1, c1, P2, c2, RowAt.only hr hI.only ne.2.2.2, h1.only hI.only (by simp [RBlk.far, RBlk.all]), h2.only hI.only (by simp [RBlk.far, RBlk.all])⟩, ⟨_, by rw [ho]; exact hI.jr, fun _ => rfl⟩, hI.disk, h.nd, h.ok, h.z3, h.z20, h.r2, fun k hk => Nat.lt_of_lt_of_le (h.xs k hk) hI.only.size, h.ap⟩
  · have hz : ¬ cntO s.group = 0 := by rw [← chgs_length]; omega
    rw [if_neg hz, hse hz]
    rcases hcase with ⟨hE, rfl, hI⟩ | ⟨hE, rfl, q', hI⟩
    · refine ⟨by rw [hE], ?_, hI.only⟩
      have f4 : (R.2 != 0) = false := by simpa using hE
      exact ⟨⟨P1, c1, P2, c2, RowAt.only hr hI.only ne.2.2.2, h1.only hI.only (by simp [RBlk.far, RBlk.all]), h2.only hI.only (by simp [RBlk.far, RBlk.all])⟩, ⟨_, by show JAt w' b.j b.r s.a s.z _ (R.2 != 0); rw [f4]; exact hI.jr, fun _ => by show s.q + 1 + 2 = s.q + 2 + 1; omega⟩, hI.disk, h.nd, hcok, h.z3, h.z20, h.r2, fun k hk => Nat.lt_of_lt_of_le (h.xs k hk) hI.only.size, h.ap⟩
    · refine ⟨by rcases h05 hz with g | g; exact absurd g hE; rw [g], ?_, hI.only⟩
      have f4 : (R.2 != 0) = true := by simpa using hE
      exact ⟨⟨P1, c1, P2, c2, RowAt.only hr hI.only ne.2.2.2, h1.only hI.only (by simp [RBlk.far, RBlk.all]), h2.only hI.only (by simp [RBlk.far, RBlk.all])⟩, ⟨q', by show JAt w' b.j b.r s.a s.z _ (R.2 != 0); rw [f4]; exact hI.jr, fun hh => by exact absurd (hh : (R.2 != 0) = false) (by rw [f4]; simp)⟩, hI.disk, h.nd, hcok, h.z3, h.z20, h.r2, fun k hk => Nat.lt_of_lt_of_le (h.xs k hk) hI.only.size, h.ap⟩
set_option maxRecDepth 100000 in
set_option maxHeartbeats 4000000 in
theorem rsync6_any {w : World} {b : RBlk} {s : Sto} (h : RStAt w b s) (hq : s.over = true ∨ (0 ≤ s.q ∧ s.q < 4294967280)) (h05 : s.over = false → ¬ cntO s.group = 0 → (srun s).2 = 0 ∨ (srun s).2 = 5) : Calls Tryz.prog 18 #[.pointer (some ⟨b.v, 0, none⟩)] w fun e w' =>
    e = .returned (.int .i64 (ssyncE s)) ∧ RStAt w' b (ssync s) ∧ Only b.all w w' := by
  obtain ⟨P1, c1, P2, c2, hsl⟩ := h.sl
  obtain ⟨q, hj, _⟩ := h.ja
  have v0 := hsl.v0
  have j4 := hj.c4
  cases ho : s.over with
  | true =>
    have HE : Hid (ssyncE s = 5) := Lib.hid (by unfold ssyncE; rw [if_pos ho])
    have HF : Hid (ssync s = s) := Lib.hid (by unfold ssync; rw [if_pos ho])
    rw [HE.out, HF.out]
    rw [ho] at j4
    have HS := Lib.hid h
    clear h ho HE HF hsl hj
    go_enter Tryz.func18, Tryz.ntmps18
    go_wp2_with fail
    go_ret
    exact ⟨rfl, HS.out, Only.refl _ _⟩
  | false =>
    have hqq : 0 ≤ s.q ∧ s.q < 4294967280 := by
      rcases hq with g | g
      · rw [ho] at g; cases g
      · exact g
    have HCMS := Lib.hid (fun (W : World) (hW : Below w.heap.size w W) => rcommit_call (h.below hW) ho hqq.1 hqq.2 (h05 ho) P2 c2 (hsl.below hW).group)
    have HRW : Hid (RowAt w b.v (rsVals b P1 (chgs s.step).length c1 P2 (chgs s.group).length c2)) := Lib.hid hsl.row
    have HNV := Lib.hid (RBlk.ne h.nd).2.2.2
    have HBAD : Hid (¬ ssyncE s = 0 → ssync s = smid s) := Lib.hid (fun he => ssync_bad ho he)
    have HGOOD : Hid (ssyncE s = 0 → ssync s = { smid s with group := noPgs (smid s).dk.last.length }) := Lib.hid (fun he => ssync_good h.ok ho he)
    have HSOK : Hid (ssync s).Ok := Lib.hid (ssync_ok h.ok)
    rw [ho] at j4
    clear h ho hsl hj hqq hq h05
    generalize (chgs s.step).length = n1 at HRW
    generalize (chgs s.group).length = n2 at HRW HCMS
    go_enter Tryz.func18, Tryz.ntmps18
    go_wp2_with fail
    clear v0 j4
    refine wp_region_noPanic ?_
    refine wp_region_held_drew (S := fun W => W.cell? ⟨b.v, 0, none⟩ = some (.pointer (some ⟨b.j, 0, none⟩)) ∧ W.cell? ⟨b.v, 2, none⟩ = some (.slice P2 n2 c2)) (by kernel_rfl) ⟨HRW.out.drew.cell 0 _ rfl, HRW.out.drew.cell 2 _ rfl⟩ (fun hHeld => ?_)
    have HRW2 := Lib.hid HRW.out.drew
    have HCM := Lib.hid (HCMS.out w.drew (Below.refl _ _).drew)
    have HB2 : Hid (Below w.heap.size w w.drew) := Lib.hid (Below.refl _ _).drew
    clear HRW
    generalize w.drew = w2 at HRW2 HCM HB2 hHeld ⊢
    refine take_at (i := 0) (d := some 11) (v := .pointer (some ⟨b.v, 0, none⟩)) rfl rfl (by kernel_rfl) (by kernel_rfl) (by kernel_rfl) (fun _ _ _ h => h) (Or.inl ⟨by kernel_rfl, ?_⟩) hHeld ?_
    · intro w hSw; obtain ⟨s0, s2⟩ := hSw; go_simp
    (try simp only [Act.put, List.setIfInBounds_toArray, List.set_cons_zero, List.set_cons_succ])
    refine take_at (i := 1) (d := some 12) (v := .pointer (some ⟨b.v, 0, none⟩)) rfl rfl (by kernel_rfl) (by kernel_rfl) (by kernel_rfl) (fun _ _ _ h => h) (Or.inl ⟨by kernel_rfl, ?_⟩) hHeld ?_
    · intro w hSw; obtain ⟨s0, s2⟩ := hSw; go_simp
    (try simp only [Act.put, List.setIfInBounds_toArray, List.set_cons_zero, List.set_cons_succ])
    refine take_at (i := 2) (d := some 13) (v := .pointer (some ⟨b.v, 0, none⟩)) rfl rfl (by kernel_rfl) (by kernel_rfl) (by kernel_rfl) (fun _ _ _ h => h) (Or.inl ⟨by kernel_rfl, ?_⟩) hHeld ?_
    · intro w hSw; obtain ⟨s0, s2⟩ := hSw; go_simp
    (try simp only [Act.put, List.setIfInBounds_toArray, List.set_cons_zero, List.set_cons_succ])
    refine take_at (i := 3) (d := some 14) (v := .pointer (some ⟨b.j, 0, none⟩)) rfl rfl (by kernel_rfl) (by kernel_rfl) (by kernel_rfl) (fun _ _ _ h => h) (Or.inl ⟨by kernel_rfl, ?_⟩) hHeld ?_
    · intro w hSw; obtain ⟨s0, s2⟩ := hSw; go_simp
    (try simp only [Act.put, List.setIfInBounds_toArray, List.set_cons_zero, List.set_cons_succ])
    refine take_at (i := 4) (d := some 15) (v := .pointer (some ⟨b.v, 0, none⟩)) rfl rfl (by kernel_rfl) (by kernel_rfl) (by kernel_rfl) (fun _ _ _ h => h) (Or.inl ⟨by kernel_rfl, ?_⟩) hHeld ?_
    · intro w hSw; obtain ⟨s0, s2⟩ := hSw; go_simp
    (try simp only [Act.put, List.setIfInBounds_toArray, List.set_cons_zero, List.set_cons_succ])
    refine take_at (i := 5) (d := some 16) (v := .pointer (some ⟨b.v, 0, none⟩)) rfl rfl (by kernel_rfl) (by kernel_rfl) (by kernel_rfl) (fun _ _ _ h => h) (Or.inl ⟨by kernel_rfl, ?_⟩) hHeld ?_
    · intro w hSw; obtain ⟨s0, s2⟩ := hSw; go_simp
    (try simp only [Act.put, List.setIfInBounds_toArray, List.set_cons_zero, List.set_cons_succ])
    refine take_at (i := 6) (d := some 17) (v := .pointer (some ⟨b.v, 2, none⟩)) rfl rfl (by kernel_rfl) (by kernel_rfl) (by kernel_rfl) (fun _ _ _ h => h) (Or.inl ⟨by kernel_rfl, ?_⟩) hHeld ?_
    · intro w hSw; obtain ⟨s0, s2⟩ := hSw; go_simp
    (try simp only [Act.put, List.setIfInBounds_toArray, List.set_cons_zero, List.set_cons_succ])
    refine take_at (i := 7) (d := some 18) (v := .slice P2 n2 c2) rfl rfl (by kernel_rfl) (by kernel_rfl) (by kernel_rfl) (fun _ _ _ h => h) (Or.inl ⟨by kernel_rfl, ?_⟩) hHeld ?_
    · intro w hSw; obtain ⟨s0, s2⟩ := hSw; go_simp
    (try simp only [Act.put, List.setIfInBounds_toArray, List.set_cons_zero, List.set_cons_succ])
    refine wpAnyH_ready (rs := [8]) (by kernel_rfl) (by simp) ?_
    refine AllReadyH.cons rfl (fun K hK => ?_) AllReadyH.nil
    go_simp
    (go_at_call 41; refine HCM.out.mono ?_; rintro e w3 ⟨rfl, hS3, ho3⟩; have HS3 := Lib.hid hS3; have HO3 := Lib.hid ho3; have HW3 : Hid (RowAt w3 b.v (rsVals b P1 n1 c1 P2 n2 c2)) := Lib.hid (RowAt.only HRW2.out ho3 HNV.out); clear hS3 ho3 HCM)
    (try go_wp2_with fail)
    refine hK.out _ _ ⟨RowAt.cell HW3.out 0 _ rfl, RowAt.cell HW3.out 2 _ rfl⟩ (fun hHeld => ?_)
    clear hK K
    (try simp only [Act.put, List.setIfInBounds_toArray, List.set_cons_zero, List.set_cons_succ])
    refine take_at (i := 9) (d := some 3) (v := .int .i64 (ssyncE s)) rfl rfl (by kernel_rfl) (by kernel_rfl) (by kernel_rfl) (fun _ _ _ h => h) (Or.inl ⟨by kernel_rfl, ?_⟩) hHeld ?_
    · intro w hSw; obtain ⟨s0, s2⟩ := hSw; go_simp
    (try simp only [Act.put, List.setIfInBounds_toArray, List.set_cons_zero, List.set_cons_succ])
    refine wpAnyH_done (by kernel_rfl) ?_ _
    refine NoPanic.normal ?_
    clear HCMS hHeld
    have HO4 : Hid (Only b.all w w3) := Lib.hid ((Only.below (l := b.all) HB2.out).trans (HO3.out.mono (by simp [RBlk.all])))
    by_cases he : ssyncE s = 0
    · have HG := Lib.hid (HGOOD.out he)
      have HSO := HSOK
      rw [HG.out] at HSO
      have HF : Hid (RStAt (w3.setCell ⟨b.v, 2, none⟩ (.slice none 0 0)) b (ssync s)) := Lib.hid (by
        have := HS3.out.setGroup (P := none) (n := 0) (c := noPgs (smid s).dk.last.length) (by rw [chgs_no]; intro h0; simp at h0) HSO.out
        rw [chgs_no] at this
        rw [HG.out]
        exact this)
      have v2 : w3.cell? ⟨b.v, 2, none⟩ = some (.slice P2 n2 c2) := RowAt.cell HW3.out 2 _ rfl
      have f2 : w3.frozen? ⟨b.v, 2, none⟩ = false := by
        have := (HW3.out.free 2 (by unfold rsVals; simp)).2
        rwa [Nat.zero_add] at this
      have HEE := Lib.hid he
      rw [he]
      clear HBAD HGOOD HG HS3 HSO he
      go_wp2_with fail
      go_ret
      exact ⟨by rw [HEE.out]; rfl, HF.out, HO4.out.setCell (p := ⟨b.v, 2, none⟩) (by simp [RBlk.all]) _⟩
    · have HB := Lib.hid (HBAD.out he)
      have HF : Hid (RStAt w3 b (ssync s)) := Lib.hid (by rw [HB.out]; exact HS3.out)
      have hne : (ssyncE s == 0) = false := by simpa using he
      have hne2 : (ssyncE s != 0) = true := by simpa using he
      clear HBAD HGOOD HB HS3 he
      generalize hE : ssyncE s = E at hne hne2 ⊢
      have HEQ := Lib.hid hE
      clear hE
      go_wp2_with fail
      go_ret
      exact ⟨by rw [HEQ.out]; rfl, HF.out, HO4.out⟩
end Go.Proofs.YtppbiohjhnoagaaGreat

/-
  The contract of the document's own Keep of a store.
-/
namespace Go.Proofs.YtppbiohjhnoagaaGreat
open Go.RowKit
open Dk (zeros zeros_length)
open Jn (Chg)

theorem setP_pages (xs : List Chg) : ∀ (g : Pgs), (∀ k p, g.getD k none = some p → p.length = 64) → (∀ x ∈ xs, x.page.length = 64) → ∀ k p, (setP g xs).getD k none = some p → p.length = 64 := by
  induction xs with
  | nil => intro g h _; exact h
  | cons x r ih =>
    intro g h hx
    refine ih (g.set x.no.toNat (some x.page)) (fun k p hk => ?_) (fun y hy => hx y (by simp [hy]))
    rw [List.getD_eq_getElem?_getD, List.getElem?_set] at hk
    by_cases e : x.no.toNat = k
    · rw [if_pos e] at hk
      split at hk
      · simp at hk; rw [← hk]; exact hx x (by simp)
      · cases hk
    · rw [if_neg e] at hk
      exact h k p (by rw [List.getD_eq_getElem?_getD]; exact hk)
theorem setP_snoc (g : Pgs) (xs : List Chg) (x : Chg) : setP g (xs ++ [x]) = (setP g xs).set x.no.toNat (some x.page) := by
  unfold setP
  rw [List.foldl_append]; rfl
/-- one page more -/
theorem putL_setP {g t : Pgs} {k : Nat} {x : Chg} (hx : (chgs t)[k]? = some x) (hl : g.length = t.length) : putL (chgs (setP g ((chgs t).take k))) x = chgs (setP g ((chgs t).take (k + 1))) := by
  rw [take_more _ k x hx, setP_snoc]
  obtain ⟨m, h1, h2⟩ := chgs_mem.1 (List.mem_of_getElem? hx)
  have hm := pgs_lt h2
  have hxx : x = ⟨(m : Int), x.page⟩ := by cases x; simp at h1 ⊢; exact h1
  have := put_chgs (setP g ((chgs t).take k)) m x.page (by rw [setP_length, hl]; exact hm)
  rw [← hxx] at this
  rw [this, h1, Int.toNat_natCast]
theorem sgrp_nil {s : Sto} (h : s.Ok) : Sto.Ok { s with group := s.step } := ⟨h.slen, h.slen, h.spg, h.spg, h.scnt, h.scnt, h.a9, h.z9, h.reg, h.room, h.r1, h.r32, h.rz⟩
theorem RStAt.joined {w : World} {b : RBlk} {s : Sto} {P : Option Addr} {n : Nat} (h : RStAt w b s) {c : Pgs} (hch : ChAt w P b.far (chgs c)) (hok : Sto.Ok { s with group := c }) : RStAt ((w.setCell ⟨b.v, 2, none⟩ (.slice P (chgs c).length n)).setCell ⟨b.v, 1, none⟩ (.slice none 0 0)) b { s with group := c, step := noPgs s.dk.last.length } := by
  have h1 := h.setGroup (n := n) hch hok
  have := h1.setStep (P := none) (n := 0) (c := noPgs s.dk.last.length) (by rw [chgs_no]; intro h0; simp at h0) (sdrop_ok hok)
  rw [chgs_no] at this
  exact this
set_option maxRecDepth 100000 in
set_option maxHeartbeats 4000000 in
theorem rkeep6_any {w : World} {b : RBlk} {s : Sto} (h : RStAt w b s) (hq : s.over = true ∨ (0 ≤ s.q ∧ s.q < 4294967280)) (h05 : s.over = false → ¬ cntO s.group = 0 → (srun s).2 = 0 ∨ (srun s).2 = 5) : Calls Tryz.prog 15 #[.pointer (some ⟨b.v, 0, none⟩)] w fun e w' =>
    e = .returned (.int .i64 (skeepE s)) ∧ RStAt w' b (skeep s) ∧ Only b.all w w' := by
  obtain ⟨P1, c1, P2, c2, hsl⟩ := h.sl
  obtain ⟨q, hj, _⟩ := h.ja
  have v0 := hsl.v0
  have v2 := hsl.v2
  have j4 := hj.c4
  cases ho : s.over with
  | true =>
    have HE : Hid (skeepE s = 5) := Lib.hid (by unfold skeepE; rw [if_pos ho])
    have HF : Hid (skeep s = s) := Lib.hid (by unfold skeep; rw [if_pos ho])
    rw [HE.out, HF.out]
    rw [ho] at j4
    have HS := Lib.hid h
    clear h ho HE HF hsl hj v2
    go_enter Tryz.func15, Tryz.ntmps15
    go_wp2_with fail
    go_ret
    exact ⟨rfl, HS.out, Only.refl _ _⟩
  | false =>
    have hnn : ¬ s.over = true := by rw [ho]; simp
    have HS := Lib.hid (fun (W : World) (hW : Below w.heap.size w W) => h.below hW)
    have HSL := Lib.hid (fun (W : World) (hW : Below w.heap.size w W) => hsl.below hW)
    have HJ2 := Lib.hid (fun (W : World) (hW : Below w.heap.size w W) => (hj.below hW).c2)
    have HSML := Lib.hid (chgs_small h.ok)
    have HLEN : Hid (s.group.length = s.step.length) := Lib.hid (by rw [h.ok.glen, h.ok.slen])
    have HGL : Hid (s.group.length ≤ 512) := Lib.hid (by rw [h.ok.glen]; exact h.disk.ok.small)
    have HPG := Lib.hid (chgs_pages h.ok.spg)
    have HPGG : Hid (∀ k p, (setP s.group ((chgs s.step).take k)).length = s.group.length ∧ (∀ x ∈ chgs (setP s.group ((chgs s.step).take k)), x.page.length = 64) ∧ p = p) := Lib.hid (fun k (p : Nat) => ⟨setP_length _ _, fun x hx => by
      obtain ⟨m, _, h2⟩ := chgs_mem.1 hx
      exact setP_pages _ _ (fun k p hk => (h.ok.gpg k p hk).1) (fun y hy => HPG.out y (List.mem_of_mem_take hy)) m _ h2, rfl⟩)
    have HRM : Hid (∀ W, Calls Tryz.prog 33 #[.int .i64 (s.z : Int)] W fun e w' => e = .returned (.int .i64 (s.r : Int)) ∧ W = w') := Lib.hid (fun W => by
      have := rroom_any (s.z : Int) W
      rwa [rN_fit s.z h.z3 h.z20 512 (by have := h.z20; omega), ← h.r2] at this)
    have HSY := Lib.hid (fun (W : World) (hW : Below w.heap.size w W) => rsync6_any (h.below hW) hq h05)
    have HOK := Lib.hid h.ok
    have HLT := Lib.hid (fun (W : World) (hW : Below w.heap.size w W) => (h.below hW).ltf)
    have HG0 : Hid (ChAt w P2 b.far (chgs (setP s.group ((chgs s.step).take 0)))) := Lib.hid hsl.group
    have HV2 : Hid (w.cell? ⟨b.v, 2, none⟩ = some (.slice P2 (chgs (setP s.group ((chgs s.step).take 0))).length c2)) := Lib.hid v2
    rw [ho] at j4
    have HO := Lib.hid ho
    clear h hsl hj ho
    obtain ⟨n, hn⟩ : ∃ n, (chgs s.step).length = n := ⟨_, rfl⟩
    have HN := Lib.hid hn
    have hn32 : n ≤ 32 := by rw [← hn]; exact HSML.out.1
    clear hn
    go_enter Tryz.func15, Tryz.ntmps15
    go_wp2_with fail
    clear v0 v2 j4
    go_loopw [3, 4] (fun v i wr => ∃ (P : Option Addr) (c k : Nat), k ≤ n ∧ v = .slice P (chgs (setP s.group ((chgs s.step).take k))).length c ∧ i = .int .i64 k ∧ ChAt wr P b.far (chgs (setP s.group ((chgs s.step).take k))) ∧ Below w.heap.size w wr) (fun _ i _ => n - (intOf i).toNat)
    case atStart => exact ⟨P2, c2, 0, Nat.zero_le _, rfl, rfl, HG0.out, Below.refl _ _⟩
    case round =>
      obtain ⟨P, c, k, hk, rfl, rfl, hch, hbel⟩ := hrel
      have HCH := Lib.hid hch
      have HB := Lib.hid hbel
      have v1 := (HSL.out wr hbel).v1
      rw [HN.out] at v1
      clear hch hbel HG0 HV2
      by_cases hlt : k < n
      · obtain ⟨x, hx⟩ : ∃ x, (chgs s.step)[k]? = some x := ⟨_, List.getElem?_eq_getElem (by rw [HN.out]; exact hlt)⟩
        obtain ⟨bb, oo, rfl, hbb, _, hcc⟩ := (HSL.out wr HB.out).step (by rw [HN.out]; omega)
        have HXR := Lib.hid (hcc k x hx)
        have HXL := Lib.hid (HPG.out x (List.mem_of_getElem? hx))
        have HPU := Lib.hid (putL_setP (g := s.group) hx HLEN.out)
        have HCL : Hid ((chgs (setP s.group ((chgs s.step).take k))).length ≤ 900) := Lib.hid (by rw [chgs_length]; refine Nat.le_trans (cntO_le _) ?_; rw [(HPGG.out k 0).1]; have := HGL.out; omega)
        have HPT := Lib.hid (rput6_any P c (chgs (setP s.group ((chgs s.step).take k))) (HCH.out.mono (by simp)) (HPGG.out k 0).2.1 HCL.out x HXL.out)
        clear hcc hbb hx
        generalize chgs (setP s.group ((chgs s.step).take k)) = cs at HCH HPU HPT HCL ⊢
        have hlt' : (k : Int) < (n : Int) := by omega
        go_wp2_with ((with_reducible refine wpList_load_rchg HXR.out HXL.out rfl (.tmp 32) rfl ?_ ?_); (exact rfl))
        refine HPT.out.mono ?_
        rintro e w2 ⟨P', c', rfl, hc2, hB2⟩
        have HC2 := Lib.hid (hc2 b.far (HLT.out wr HB.out))
        have HB2 := Lib.hid (HB.out.trans (hB2.mono HB.out.size))
        rw [HPU.out] at HC2 ⊢
        clear hc2 hB2 HPT v1 HXR
        go_wp2_with fail
        go_roundw
        case rel => exact ⟨P', c', k + 1, by omega, rfl, by go_num, HC2.out, HB2.out⟩
        case measure => simp [intOf]; omega
      · obtain rfl : n = k := by omega
        have hkk : ¬ ((n : Int) < (n : Int)) := by omega
        have HJ : Hid (setP s.group ((chgs s.step).take n) = joinP s.group s.step) := Lib.hid (by rw [List.take_of_length_le (by rw [HN.out]; exact Nat.le_refl _)]; exact setP_join _ _ HLEN.out)
        rw [HJ.out] at HCH ⊢
        have HCN : Hid ((chgs (joinP s.group s.step)).length = stog s) := Lib.hid (chgs_length _)
        have v0 := (HSL.out wr HB.out).v0
        have j2 := HJ2.out wr HB.out
        have HST := Lib.hid (HS.out wr HB.out)
        by_cases hr : s.r < stog s
        · have HE : Hid (skeepE s = ssyncE s) := Lib.hid (by unfold skeepE; rw [if_neg (by rw [HO.out]; simp), if_pos hr])
          have hr' : (s.r : Int) < (stog s : Int) := by omega
          have hlen : (chgs (joinP s.group s.step)).length = stog s := HCN.out
          rw [hlen]
          clear hlen
          go_wp2_with fail
          refine (HRM.out _).mono ?_
          rintro e w1 ⟨rfl, rfl⟩
          go_wp2_with fail
          refine (HSY.out wr HB.out).mono ?_
          rintro e w2 ⟨rfl, hS2, hO2⟩
          have HS2 := Lib.hid hS2
          have HO2 : Hid (Only b.all w w2) := Lib.hid ((Only.below (l := b.all) HB.out).trans hO2)
          clear hS2 hO2 v0 v1 j2 HST HCH
          by_cases he : ssyncE s = 0
          · have HF : Hid (skeep s = sjoin (ssync s)) := Lib.hid (by unfold skeep; rw [if_neg (by rw [HO.out]; simp), if_pos hr, if_pos he])
            have HEE := Lib.hid he
            obtain ⟨_, hg0, _, _, _⟩ := ssync_fine HOK.out he
            obtain ⟨Q1, d1, Q2, d2, hsl2⟩ := HS2.out.sl
            have HSO := Lib.hid HS2.out.ok
            have HJN : Hid (sjoin (ssync s) = { ssync s with group := (ssync s).step, step := noPgs (ssync s).dk.last.length }) := Lib.hid (by
              unfold sjoin
              have e1 := cntO_zero hg0
              have e2 : joinP (ssync s).group (ssync s).step = (ssync s).step := by
                rw [e1]
                exact joinP_no _ _ (by rw [HSO.out.slen, HSO.out.glen])
              rw [e2])
            have HFF : Hid (RStAt ((w2.setCell ⟨b.v, 2, none⟩ (.slice Q1 (chgs (ssync s).step).length d1)).setCell ⟨b.v, 1, none⟩ (.slice none 0 0)) b (skeep s)) := Lib.hid (by
              rw [HF.out, HJN.out]
              exact HS2.out.joined hsl2.step (sgrp_nil HSO.out))
            have v1 := hsl2.v1
            have v2 := hsl2.v2
            have f1 : w2.frozen? ⟨b.v, 1, none⟩ = false := by
              have := (hsl2.row.free 1 (by unfold rsVals; simp)).2
              rwa [Nat.zero_add] at this
            have f2 : w2.frozen? ⟨b.v, 2, none⟩ = false := by
              have := (hsl2.row.free 2 (by unfold rsVals; simp)).2
              rwa [Nat.zero_add] at this
            rw [he]
            clear he hg0 hsl2 HF HJN
            generalize (chgs (ssync s).step).length = L1 at v1 HFF
            generalize (chgs (ssync s).group).length = L2 at v2
            go_wp2_with fail
            go_ret
            refine ⟨by rw [HE.out, HEE.out]; rfl, HFF.out, ?_⟩
            exact (HO2.out.setCell (p := ⟨b.v, 2, none⟩) (by simp [RBlk.all]) _).setCell (p := ⟨b.v, 1, none⟩) (by simp [RBlk.all]) _
          · have HF : Hid (skeep s = ssync s) := Lib.hid (by unfold skeep; rw [if_neg (by rw [HO.out]; simp), if_pos hr, if_neg he])
            have hne : (ssyncE s == 0) = false := by simpa using he
            have hne2 : (ssyncE s != 0) = true := by simpa using he
            clear he
            generalize hE : ssyncE s = E at hne hne2 HE ⊢
            clear hE
            go_wp2_with fail
            go_ret
            exact ⟨by rw [HE.out]; rfl, by rw [HF.out]; exact HS2.out, HO2.out⟩
        · have HE : Hid (skeepE s = 0) := Lib.hid (by unfold skeepE; rw [if_neg (by rw [HO.out]; simp), if_neg hr])
          have HF : Hid (skeep s = sjoin s) := Lib.hid (by unfold skeep; rw [if_neg (by rw [HO.out]; simp), if_neg hr])
          have hr' : ¬ ((s.r : Int) < (stog s : Int)) := by omega
          have HFF : Hid (RStAt ((wr.setCell ⟨b.v, 2, none⟩ (.slice P (stog s) c)).setCell ⟨b.v, 1, none⟩ (.slice none 0 0)) b (skeep s)) := Lib.hid (by
            rw [HF.out]
            have := HST.out.joined (n := c) HCH.out (sgrp_ok HOK.out (by omega))
            rw [HCN.out] at this
            exact this)
          have v2 := (HSL.out wr HB.out).v2
          have f1 : wr.frozen? ⟨b.v, 1, none⟩ = false := by
            have := ((HSL.out wr HB.out).row.free 1 (by unfold rsVals; simp)).2
            rwa [Nat.zero_add] at this
          have f2 : wr.frozen? ⟨b.v, 2, none⟩ = false := by
            have := ((HSL.out wr HB.out).row.free 2 (by unfold rsVals; simp)).2
            rwa [Nat.zero_add] at this
          have hlen : (chgs (joinP s.group s.step)).length = stog s := HCN.out
          rw [hlen]
          clear hlen HST HCH HF
          generalize stog s = L at HFF hr' ⊢
          generalize (chgs s.group).length = L2 at v2
          go_wp2_with fail
          refine (HRM.out _).mono ?_
          rintro e w1 ⟨rfl, rfl⟩
          go_wp2_with fail
          go_ret
          refine ⟨by rw [HE.out]; rfl, HFF.out, ?_⟩
          exact ((Only.below (l := b.all) HB.out).setCell (p := ⟨b.v, 2, none⟩) (by simp [RBlk.all]) _).setCell (p := ⟨b.v, 1, none⟩) (by simp [RBlk.all]) _
end Go.Proofs.YtppbiohjhnoagaaGreat

/-
  The contracts of the document's own Open of a store, and of the program's, of a size that does not fit.
-/
namespace Go.Proofs.YtppbiohjhnoagaaGreat
open Go.RowKit
open Dk (zeros zeros_length)
open Jn (Chg)

theorem rst_new {w w2 : World} {r ra rb rc j A Z : Nat} {q : Int} {s : Dk.St} {T : TypeId} {E : List Nat} (hE : ∀ k ∈ E, k < w.heap.size ∧ k ∉ [r, ra, rb, rc]) (hd : RefAt w2 r ra rb rc s) (hj : JAt w2 j r A Z (q + 1) false) (ho : Only [r, ra, rb, rc] w w2) (hlt : r < w.heap.size ∧ ra < w.heap.size ∧ rb < w.heap.size ∧ rc < w.heap.size) (hjj : w.heap.size ≤ j) (hok : (sto0 s A Z (Z - 2) q).Ok) (h3 : 3 ≤ Z) (h20 : Z ≤ 20) :
    RStAt (w2.alloc (.cells (rsVals ⟨w2.heap.size, j, r, ra, rb, rc, E⟩ none 0 0 none 0 0).toArray T)) ⟨w2.heap.size, j, r, ra, rb, rc, E⟩ (sto0 s A Z (Z - 2) q) ∧
    Only [r, ra, rb, rc] w (w2.alloc (.cells (rsVals ⟨w2.heap.size, j, r, ra, rb, rc, E⟩ none 0 0 none 0 0).toArray T)) := by
  have hjlt := hj.lt
  have hsz := ho.size
  have hn : ∀ n, chgs (noPgs n) = [] := chgs_no
  refine ⟨⟨⟨none, 0, none, 0, ?_, ?_, ?_⟩, ⟨q + 1, hj.below ((Below.refl _ _).alloc (Nat.le_refl _) _), fun _ => rfl⟩, hd.alloc _, ?_, hok, h3, h20, rfl, fun k hk => by have := (hE k hk).1; simp; omega, fun k hk => ?_⟩, ho.alloc _⟩
  · show RowAt _ _ (rsVals _ none (chgs (noPgs _)).length 0 none (chgs (noPgs _)).length 0)
    rw [hn]
    exact rowAt_new w2 _ T
  · show ChAt _ none _ (chgs (noPgs _))
    rw [hn]
    intro h0; simp at h0
  · show ChAt _ none _ (chgs (noPgs _))
    rw [hn]
    intro h0; simp at h0
  · have e1 := hd.ra
    have e2 := hd.rb
    have e3 := hd.rc
    have e4 := hd.ab
    have e5 := hd.ac
    have e6 := hd.bc
    unfold RBlk.all
    simp only [List.nodup_cons, List.mem_cons, List.not_mem_nil, or_false, not_or, List.nodup_nil, not_false_eq_true, and_true]
    omega
  · have e1 := hE k hk
    unfold RBlk.all
    simp only [List.mem_cons, List.not_mem_nil, or_false, not_or] at e1 ⊢
    omega
set_option maxRecDepth 100000 in
set_option maxHeartbeats 2000000 in
theorem ropen6_ok {w : World} {r ra rb rc A Z : Nat} {q : Int} {R : Dk.St × Int} {E : List Nat} (hE : ∀ k ∈ E, k < w.heap.size ∧ k ∉ [r, ra, rb, rc]) (hlt : r < w.heap.size ∧ ra < w.heap.size ∧ rb < w.heap.size ∧ rc < w.heap.size) (hR : R.2 = 0) (hok : (sto0 R.1 A Z (Z - 2) q).Ok) (h3 : 3 ≤ Z) (h20 : Z ≤ 20)
    (hO : Calls Tryz.prog 28 #[.pointer (some ⟨r, 0, none⟩), .int .i64 (A : Int), .int .i64 (Z : Int)] w (ROpened w r ra rb rc A Z R (q + 1))) :
    Calls Tryz.prog 9 #[.pointer (some ⟨r, 0, none⟩), .int .i64 (A : Int), .int .i64 (Z : Int)] w fun e w' =>
      ∃ b : RBlk, b.x = E ∧ b.r = r ∧ b.ra = ra ∧ b.rb = rb ∧ b.rc = rc ∧ w.heap.size ≤ b.v ∧ w.heap.size ≤ b.j ∧ e = .returned (.tuple #[.pointer (some ⟨b.v, 0, none⟩), .int .i64 0]) ∧ RStAt w' b (sto0 R.1 A Z (Z - 2) q) ∧ Only [r, ra, rb, rc] w w' := by
  have HO := Lib.hid hO
  have HD := Lib.hid hlt
  have HOK := Lib.hid hok
  have HEE := Lib.hid hE
  clear hO hlt hok hE
  go_enter Tryz.func9, Tryz.ntmps9
  go_wp2_with fail
  refine HO.out.mono ?_
  rintro e w2 ⟨hd2, ho2, hc⟩
  have HD2 := Lib.hid hd2
  have HO2 := Lib.hid ho2
  clear hd2 ho2 HO
  rcases hc with ⟨hz0, j, cnt, rfl, hj, hjj⟩ | ⟨hz0, rfl⟩
  · have HN := Lib.hid (rst_new (T := 53) HEE.out HD2.out hj HO2.out HD.out hjj HOK.out h3 h20)
    have HJJ := Lib.hid hjj
    have HSZ := Lib.hid HO2.out.size
    clear hj hjj hz0
    unfold rsVals at HN
    go_wp2_with fail
    go_ret2
    exact ⟨⟨w2.heap.size, j, r, ra, rb, rc, E⟩, rfl, rfl, rfl, rfl, rfl, HSZ.out, HJJ.out, rfl, HN.out.1, HN.out.2⟩
  · exact absurd hR hz0
set_option maxRecDepth 100000 in
set_option maxHeartbeats 2000000 in
theorem ropen6_bad {w : World} {r ra rb rc : Nat} {s : Dk.St} (h : RefAt w r ra rb rc s) (hup : s.down = false) (z : Int) (hz0 : -9223372036854775808 ≤ z) (hz1 : z ≤ 9223372036854775807) (hl : s.last.length = 40) (hb : z ≤ 2 ∨ 20 < z) :
    Calls Tryz.prog 9 #[.pointer (some ⟨r, 0, none⟩), .int .i64 20, .int .i64 z] w fun e w' => e = .returned (.tuple #[.pointer none, .int .i64 22]) ∧ w = w' := by
  have HO : Hid (Calls Tryz.prog 28 #[.pointer (some ⟨r, 0, none⟩), .int .i64 20, .int .i64 z] w fun e w' => e = .returned (.tuple #[.pointer none, .int .i64 0, .int .i64 22]) ∧ w = w') := Lib.hid (ropen_bad (A := 20) h hup z hz0 hz1 (by omega) (by rw [hl]; omega))
  clear h hup hl hb
  go_enter Tryz.func9, Tryz.ntmps9
  go_wp2_with fail
  refine HO.out.mono ?_
  rintro e w2 ⟨rfl, rfl⟩
  go_wp2_with fail
  go_ret2
  exact ⟨rfl, rfl⟩
set_option maxRecDepth 100000 in
set_option maxHeartbeats 2000000 in
theorem jopen_bad {w : World} {d l m : Nat} {s : Dk.St} (h : DiskAt w d l m s) (hup : s.down = false) (z : Int) (hz0 : -9223372036854775808 ≤ z) (hz1 : z ≤ 9223372036854775807) (hl : s.last.length = 40) (hb : z ≤ 2 ∨ 20 < z) :
    Calls Tryz.prog 27 #[.pointer (some ⟨d, 0, none⟩), .int .i64 20, .int .i64 z] w fun e w' => e = .returned (.tuple #[.pointer none, .int .i64 0, .int .i64 22]) ∧ w = w' := by
  have HDN := Lib.hid (down_any h)
  rw [hup] at HDN
  have HRM := Lib.hid (jroom_any z w)
  have HPG := Lib.hid (pages_any h)
  rw [hl] at HPG
  clear h hup hl
  rcases hb with hb | hb
  · have e0 : jN z = 0 := by
      unfold jN
      by_cases h1 : z ≤ 1
      · rw [if_pos h1]
      · rw [if_neg h1, if_pos (by omega)]; omega
    rw [e0] at HRM
    clear e0
    go_enter Tryz.func27, Tryz.ntmps27
    go_wp2_with fail
    refine HDN.out.mono ?_
    rintro e w' ⟨rfl, rfl⟩
    go_wp2_with fail
    refine HRM.out.mono ?_
    rintro e w' ⟨rfl, rfl⟩
    clear HDN HRM
    go_wp2_with fail
    go_ret3
    exact ⟨rfl, rfl⟩
  · have hp : 1 ≤ jN z := by
      unfold jN
      rw [if_neg (by omega)]
      split <;> omega
    generalize jN z = N at HRM hp
    have hr1 : (N == 0) = false := by rw [beq_eq_false_iff_ne]; omega
    have hw : IntKind.i64.wrap (40 - z) = 40 - z := IntWalk.i64_in _ (by omega)
    have hr3 : 40 - z < 20 := by omega
    go_enter Tryz.func27, Tryz.ntmps27
    go_wp2_with fail
    refine HDN.out.mono ?_
    rintro e w' ⟨rfl, rfl⟩
    go_wp2_with fail
    refine HRM.out.mono ?_
    rintro e w' ⟨rfl, rfl⟩
    go_wp2_with fail
    refine HPG.out.mono ?_
    rintro e w' ⟨rfl, rfl⟩
    clear HDN HRM HPG
    go_wp2_with fail
    go_ret3
    exact ⟨rfl, rfl⟩
set_option maxRecDepth 100000 in
set_option maxHeartbeats 2000000 in
theorem sopen_bad {w : World} {d l m : Nat} {s : Dk.St} (h : DiskAt w d l m s) (hup : s.down = false) (z : Int) (hz0 : -9223372036854775808 ≤ z) (hz1 : z ≤ 9223372036854775807) (hl : s.last.length = 40) (hb : z ≤ 2 ∨ 20 < z) :
    Calls Tryz.prog 8 #[.pointer (some ⟨d, 0, none⟩), .int .i64 20, .int .i64 z] w fun e w' => e = .returned (.tuple #[.pointer none, .int .i64 22]) ∧ w = w' := by
  have HO := Lib.hid (jopen_bad h hup z hz0 hz1 hl hb)
  clear h hup hl hb
  go_enter Tryz.func8, Tryz.ntmps8
  go_wp2_with fail
  refine HO.out.mono ?_
  rintro e w2 ⟨rfl, rfl⟩
  go_wp2_with fail
  go_ret2
  exact ⟨rfl, rfl⟩
end Go.Proofs.YtppbiohjhnoagaaGreat
