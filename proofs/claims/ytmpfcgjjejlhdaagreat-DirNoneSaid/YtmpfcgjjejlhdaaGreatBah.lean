/- Texts of the proof. -/
import Derived.Test.YtmpfcgjjejlhdaaGreatBag
import Derived.Test.YtmpfcgjjejlhdaaGreatBaf
import Derived.Test.YtmpfcgjjejlhdaaGreatBab
import Derived.Test.YtmpfcgjjejlhdaaGreatBac
import Derived.BigQuiet
import Derived.Deep.QuietTactic
import Derived.Laws.IdiomStrings
import Derived.Laws.IdiomCopy
import Derived.Lib.SliceRun
set_option maxRecDepth 100000
set_option maxHeartbeats 16000000
namespace Go.Proofs.YtmpfcgjjejlhdaaGreat
section
open Go.RowKit Go.Maps
open Dk (zeros zeros_length)
open Jn (Chg)
theorem sgrp_ok {s : Sto} (h : s.Ok) (hc : stog s ≤ s.r) : Sto.Ok { s with group := joinP s.group s.step } :=
  ⟨h.slen, by show (joinP _ _).length = _; rw [joinP_length]; exact h.glen, h.spg, pagesOk_join h.gpg h.spg, h.scnt, hc, h.a9, h.z9, h.reg, h.room, h.r1, h.r32, h.rz⟩
theorem copy_store {w : World} {b : Blk} {s : Sto} (h : StoreAt w b s) (hc : stog s ≤ s.r) : Calls Tryz.prog 122 #[.map (some b.g), .map (some b.t)] w fun e w' =>
    e = .returned (.tuple #[]) ∧ StoreAt w' b { s with group := joinP s.group s.step } ∧ Only [b.g] w w' := by
  have ne := Blk.ne h.nd
  refine (copy_any h.group h.step (by omega) (by rw [h.ok.slen, h.ok.glen]) (by rw [h.ok.glen]; have := h.disk.ok.small; omega)).mono ?_
  rintro e w' ⟨rfl, hm, ho⟩
  exact ⟨rfl, h.setGroup ho hm (sgrp_ok h.ok hc), ho⟩
theorem stog_le {s : Sto} (h : s.Ok) (hn : s.dk.last.length ≤ 512) : stog s ≤ 512 := by
  unfold stog
  refine Nat.le_trans (cntO_le _) ?_
  rw [joinP_length, h.glen]; exact hn
theorem skeep_any {w : World} {b : Blk} {s : Sto} (h : StoreAt w b s) (hq0 : 0 ≤ s.q) (hq1 : s.q < 4294967290) : Calls Tryz.prog 78 #[.pointer (some ⟨b.s, 0, none⟩)] w fun e w' =>
    e = .returned (.int .i64 (skeepE s)) ∧ StoreAt w' b (skeep s) ∧ Only [b.j, b.d, b.l, b.m, b.g, b.t] w w' := by
  have HS := Lib.hid h
  have HV := Lib.hid (sover_any h)
  have HOK0 := Lib.hid h.ok
  cases ho : s.over with
  | true =>
    have HE : Hid (skeepE s = 5) := Lib.hid (by unfold skeepE; rw [if_pos ho])
    have HF : Hid (skeep s = s) := Lib.hid (by unfold skeep; rw [if_pos ho])
    rw [HE.out, HF.out]
    rw [ho] at HV
    clear h ho HE HF
    go_enter Tryz.func78, Tryz.ntmps78
    go_wp2_with (go_at_call 71; refine HV.out.mono ?_; rintro e w' ⟨rfl, rfl⟩)
    go_ret
    exact ⟨rfl, HS.out, Only.refl _ _⟩
  | false =>
    rw [ho] at HV
    have hnn : ¬ s.over = true := by rw [ho]; simp
    have HTG := Lib.hid (fun (W : World) (hW : StoreAt W b s) => stog_any hW)
    have HRM := Lib.hid (fun (W : World) (hW : StoreAt W b s) => show Calls Tryz.prog 119 #[.pointer (some ⟨b.j, 0, none⟩)] W fun e w' => e = .returned (.int .i64 (s.r : Int)) ∧ W = w' from by
      obtain ⟨q', hj', _⟩ := hW.ja
      exact mroom_any hj' hW.ok.room)
    have HSY := Lib.hid (fun (W : World) (hW : StoreAt W b s) => ssync_any hW hq0 hq1)
    have hT5 := stog_le h.ok h.disk.ok.small
    have hR5 := h.ok.r32
    by_cases hr : s.r < stog s
    · by_cases he : ssyncE s = 0
      · have HE : Hid (skeepE s = 0) := Lib.hid (by unfold skeepE; rw [if_neg hnn, if_pos hr, he])
        have HF : Hid (skeep s = sjoin (ssync s)) := Lib.hid (by unfold skeep; rw [if_neg hnn, if_pos hr, if_pos he])
        have HJK := Lib.hid (sjoin_sync h.ok he)
        have HOK := Lib.hid (ssync_ok h.ok)
        rw [he] at HSY
        rw [HE.out, HF.out]
        clear HE HF h ho hnn he hq0 hq1 HOK0
        have hr' : (s.r : Int) < (stog s : Int) := by omega
        generalize stog s = T at HTG hT5 hr hr'
        generalize s.r = rr at HRM hR5 hr hr'
        generalize ssync s = s1 at HSY HJK HOK ⊢
        go_enter Tryz.func78, Tryz.ntmps78
        go_wp2_with (go_at_call 71; refine HV.out.mono ?_; rintro e w' ⟨rfl, rfl⟩)
        refine wp_region_noPanic ?_
        refine wp_region_held_drew (S := fun W => StoreAt W b s) (by kernel_rfl) HS.out.drew (fun hHeld => ?_)
        have HB1 : Hid (Below w.heap.size w w.drew) := Lib.hid (Below.refl _ _).drew
        have HS1 := Lib.hid HS.out.drew
        generalize w.drew = w1 at HB1 HS1 hHeld ⊢
        refine take_at (i := 0) (d := some 6) (v := .pointer (some ⟨b.s, 0, none⟩)) rfl rfl (by kernel_rfl) (by kernel_rfl) (by kernel_rfl) (fun _ _ _ h => h) (Or.inl ⟨by kernel_rfl, ?_⟩) hHeld ?_
        · intro w hSw; have c0 := StoreAt.c0 hSw; go_simp
        (try simp only [Act.put, puA, puB, puC])
        refine take_at (i := 2) (d := some 8) (v := .pointer (some ⟨b.s, 0, none⟩)) rfl rfl (by kernel_rfl) (by kernel_rfl) (by kernel_rfl) (fun _ _ _ h => h) (Or.inl ⟨by kernel_rfl, ?_⟩) hHeld ?_
        · intro w hSw; have c0 := StoreAt.c0 hSw; go_simp
        (try simp only [Act.put, puA, puB, puC])
        refine take_at (i := 3) (d := some 9) (v := .pointer (some ⟨b.s, 0, none⟩)) rfl rfl (by kernel_rfl) (by kernel_rfl) (by kernel_rfl) (fun _ _ _ h => h) (Or.inl ⟨by kernel_rfl, ?_⟩) hHeld ?_
        · intro w hSw; have c0 := StoreAt.c0 hSw; go_simp
        (try simp only [Act.put, puA, puB, puC])
        refine take_at (i := 4) (d := some 10) (v := .pointer (some ⟨b.s, 0, none⟩)) rfl rfl (by kernel_rfl) (by kernel_rfl) (by kernel_rfl) (fun _ _ _ h => h) (Or.inl ⟨by kernel_rfl, ?_⟩) hHeld ?_
        · intro w hSw; have c0 := StoreAt.c0 hSw; go_simp
        (try simp only [Act.put, puA, puB, puC])
        refine take_at (i := 5) (d := some 11) (v := .pointer (some ⟨b.j, 0, none⟩)) rfl rfl (by kernel_rfl) (by kernel_rfl) (by kernel_rfl) (fun _ _ _ h => h) (Or.inl ⟨by kernel_rfl, ?_⟩) hHeld ?_
        · intro w hSw; have c0 := StoreAt.c0 hSw; go_simp
        (try simp only [Act.put, puA, puB, puC])
        refine wpAnyH_ready (rs := [1]) (by kernel_rfl) (by simp) ?_
        refine AllReadyH.cons rfl (fun K hK => ?_) AllReadyH.nil
        go_simp
        (go_at_call 120; refine (HTG.out w1 HS1.out).mono ?_; rintro e w2 ⟨rfl, hB2⟩; have HS2 := Lib.hid (HS1.out.below hB2); have HB2 := Lib.hid (HB1.out.trans (hB2.mono HB1.out.size)); clear hB2 HS1 HB1)
        (try go_wp2_with fail)
        refine hK.out _ _ HS2.out (fun hHeld => ?_)
        clear hK K
        (try simp only [Act.put, puA, puB, puC])
        refine wpAnyH_ready (rs := [6]) (by kernel_rfl) (by simp) ?_
        refine AllReadyH.cons rfl (fun K hK => ?_) AllReadyH.nil
        go_simp
        (go_at_call 119; refine (HRM.out w2 HS2.out).mono ?_; rintro e w3 ⟨rfl, hw3⟩; subst hw3)
        (try go_wp2_with fail)
        refine hK.out _ _ HS2.out (fun hHeld => ?_)
        clear hK K
        (try simp only [Act.put, puA, puB, puC])
        refine take_at (i := 7) (d := some 13) (v := .bool true) rfl rfl (by kernel_rfl) (by kernel_rfl) (by kernel_rfl) (fun _ _ _ h => h) (Or.inl ⟨by kernel_rfl, ?_⟩) hHeld ?_
        · intro w hSw; have c0 := StoreAt.c0 hSw; go_simp
        (try simp only [Act.put, puA, puB, puC])
        refine wpAnyH_done (by kernel_rfl) ?_ _
        refine NoPanic.normal ?_
        clear HTG HRM HV HS
        go_wp2_with fail
        refine (HSY.out w2 HS2.out).mono ?_
        rintro e w4 ⟨rfl, hS4, hO4⟩
        have HS4 := Lib.hid hS4
        have HOO : Hid (Only [b.j, b.d, b.l, b.m, b.g, b.t] w w4) := Lib.hid ((Only.below HB2.out).trans (hO4.mono (by simp)))
        clear hS4 hO4 HSY HS2 HB2
        go_wp2_with fail
        refine wp_region_noPanic ?_
        refine wp_region_held_drew (S := fun W => W.cell? ⟨b.s, 4, none⟩ = some (.map (some b.t)) ∧ W.cell? ⟨b.s, 5, none⟩ = some (.map (some b.g))) (by kernel_rfl) ⟨HS4.out.drew.c4, HS4.out.drew.c5⟩ (fun hHeld => ?_)
        have HO5 : Hid (Only [b.j, b.d, b.l, b.m, b.g, b.t] w w4.drew) := Lib.hid (HOO.out.drew)
        have HS5 := Lib.hid HS4.out.drew
        clear HOO
        generalize w4.drew = w5 at HO5 HS5 hHeld ⊢
        refine take_at (i := 0) (d := some 19) (v := .pointer (some ⟨b.s, 0, none⟩)) rfl rfl (by kernel_rfl) (by kernel_rfl) (by kernel_rfl) (fun _ _ _ h => h) (Or.inl ⟨by kernel_rfl, ?_⟩) hHeld ?_
        · intro w hSw; have c4 := hSw.1; have c5 := hSw.2; go_simp
        (try simp only [Act.put, puA, puB, puC])
        refine take_at (i := 1) (d := some 20) (v := .pointer (some ⟨b.s, 0, none⟩)) rfl rfl (by kernel_rfl) (by kernel_rfl) (by kernel_rfl) (fun _ _ _ h => h) (Or.inl ⟨by kernel_rfl, ?_⟩) hHeld ?_
        · intro w hSw; have c4 := hSw.1; have c5 := hSw.2; go_simp
        (try simp only [Act.put, puA, puB, puC])
        refine take_at (i := 2) (d := some 21) (v := .pointer (some ⟨b.s, 5, none⟩)) rfl rfl (by kernel_rfl) (by kernel_rfl) (by kernel_rfl) (fun _ _ _ h => h) (Or.inl ⟨by kernel_rfl, ?_⟩) hHeld ?_
        · intro w hSw; have c4 := hSw.1; have c5 := hSw.2; go_simp
        (try simp only [Act.put, puA, puB, puC])
        refine take_at (i := 3) (d := some 22) (v := .map (some b.g)) rfl rfl (by kernel_rfl) (by kernel_rfl) (by kernel_rfl) (fun _ _ _ h => h) (Or.inl ⟨by kernel_rfl, ?_⟩) hHeld ?_
        · intro w hSw; have c4 := hSw.1; have c5 := hSw.2; go_simp
        (try simp only [Act.put, puA, puB, puC])
        refine take_at (i := 4) (d := some 23) (v := .pointer (some ⟨b.s, 0, none⟩)) rfl rfl (by kernel_rfl) (by kernel_rfl) (by kernel_rfl) (fun _ _ _ h => h) (Or.inl ⟨by kernel_rfl, ?_⟩) hHeld ?_
        · intro w hSw; have c4 := hSw.1; have c5 := hSw.2; go_simp
        (try simp only [Act.put, puA, puB, puC])
        refine take_at (i := 5) (d := some 24) (v := .pointer (some ⟨b.s, 0, none⟩)) rfl rfl (by kernel_rfl) (by kernel_rfl) (by kernel_rfl) (fun _ _ _ h => h) (Or.inl ⟨by kernel_rfl, ?_⟩) hHeld ?_
        · intro w hSw; have c4 := hSw.1; have c5 := hSw.2; go_simp
        (try simp only [Act.put, puA, puB, puC])
        refine take_at (i := 6) (d := some 25) (v := .pointer (some ⟨b.s, 4, none⟩)) rfl rfl (by kernel_rfl) (by kernel_rfl) (by kernel_rfl) (fun _ _ _ h => h) (Or.inl ⟨by kernel_rfl, ?_⟩) hHeld ?_
        · intro w hSw; have c4 := hSw.1; have c5 := hSw.2; go_simp
        (try simp only [Act.put, puA, puB, puC])
        refine take_at (i := 7) (d := some 26) (v := .map (some b.t)) rfl rfl (by kernel_rfl) (by kernel_rfl) (by kernel_rfl) (fun _ _ _ h => h) (Or.inl ⟨by kernel_rfl, ?_⟩) hHeld ?_
        · intro w hSw; have c4 := hSw.1; have c5 := hSw.2; go_simp
        (try simp only [Act.put, puA, puB, puC])
        refine wpAnyH_ready (rs := [8]) (by kernel_rfl) (by simp) ?_
        refine AllReadyH.cons rfl (fun K hK => ?_) AllReadyH.nil
        go_simp
        (go_at_call 122; refine (copy_store HS5.out HJK.out).mono ?_; rintro e w6 ⟨rfl, hS6, hO6⟩; have HS6 := Lib.hid hS6; have HO6 := Lib.hid (HO5.out.trans (hO6.mono (by simp))); clear hS6 hO6 HS5 HO5)
        (try go_wp2_with fail)
        refine hK.out _ _ ⟨HS6.out.c4, HS6.out.c5⟩ (fun hHeld => ?_)
        clear hK K
        (try simp only [Act.put, puA, puB, puC])
        refine wpAnyH_done (by kernel_rfl) ?_ _
        refine NoPanic.normal ?_
        have c4 := HS6.out.c4
        obtain ⟨w7, hcl0, hmp, htn⟩ := HS6.out.step.clear (s1).dk.last.length 0
        have hcl : ∀ ty, (Builtin.clear_ #[91] ty #[.map (some b.t)]).run Tryz.prog w6 = .ok (.tuple #[]) w7 := fun ty => hcl0
        have HM := Lib.hid hmp
        have HT := Lib.hid htn
        clear hcl0 hmp htn
        go_wp2_with fail
        go_ret
        have ho : Only [b.t] w6 w7 := Only.grown HT.out.grown (by simp)
        refine ⟨rfl, ?_, HO6.out.trans (ho.mono (by simp))⟩
        unfold sjoin
        exact HS6.out.setStep ho HM.out (sjoin_ok HOK.out HJK.out)
      · have HE : Hid (skeepE s = ssyncE s) := Lib.hid (by unfold skeepE; rw [if_neg hnn, if_pos hr])
        have HF : Hid (skeep s = ssync s) := Lib.hid (by unfold skeep; rw [if_neg hnn, if_pos hr, if_neg he])
        rw [HE.out, HF.out]
        have hne2 : (ssyncE s == 0) = false := by simpa using he
        have hne3 : (ssyncE s != 0) = true := by simpa using he
        clear HE HF h ho hnn he hq0 hq1 HOK0
        have hr' : (s.r : Int) < (stog s : Int) := by omega
        generalize stog s = T at HTG hT5 hr hr'
        generalize s.r = rr at HRM hR5 hr hr'
        generalize ssync s = s1 at HSY ⊢
        generalize ssyncE s = E at HSY hne2 hne3 ⊢
        go_enter Tryz.func78, Tryz.ntmps78
        go_wp2_with (go_at_call 71; refine HV.out.mono ?_; rintro e w' ⟨rfl, rfl⟩)
        refine wp_region_noPanic ?_
        refine wp_region_held_drew (S := fun W => StoreAt W b s) (by kernel_rfl) HS.out.drew (fun hHeld => ?_)
        have HB1 : Hid (Below w.heap.size w w.drew) := Lib.hid (Below.refl _ _).drew
        have HS1 := Lib.hid HS.out.drew
        generalize w.drew = w1 at HB1 HS1 hHeld ⊢
        refine take_at (i := 0) (d := some 6) (v := .pointer (some ⟨b.s, 0, none⟩)) rfl rfl (by kernel_rfl) (by kernel_rfl) (by kernel_rfl) (fun _ _ _ h => h) (Or.inl ⟨by kernel_rfl, ?_⟩) hHeld ?_
        · intro w hSw; have c0 := StoreAt.c0 hSw; go_simp
        (try simp only [Act.put, puA, puB, puC])
        refine take_at (i := 2) (d := some 8) (v := .pointer (some ⟨b.s, 0, none⟩)) rfl rfl (by kernel_rfl) (by kernel_rfl) (by kernel_rfl) (fun _ _ _ h => h) (Or.inl ⟨by kernel_rfl, ?_⟩) hHeld ?_
        · intro w hSw; have c0 := StoreAt.c0 hSw; go_simp
        (try simp only [Act.put, puA, puB, puC])
        refine take_at (i := 3) (d := some 9) (v := .pointer (some ⟨b.s, 0, none⟩)) rfl rfl (by kernel_rfl) (by kernel_rfl) (by kernel_rfl) (fun _ _ _ h => h) (Or.inl ⟨by kernel_rfl, ?_⟩) hHeld ?_
        · intro w hSw; have c0 := StoreAt.c0 hSw; go_simp
        (try simp only [Act.put, puA, puB, puC])
        refine take_at (i := 4) (d := some 10) (v := .pointer (some ⟨b.s, 0, none⟩)) rfl rfl (by kernel_rfl) (by kernel_rfl) (by kernel_rfl) (fun _ _ _ h => h) (Or.inl ⟨by kernel_rfl, ?_⟩) hHeld ?_
        · intro w hSw; have c0 := StoreAt.c0 hSw; go_simp
        (try simp only [Act.put, puA, puB, puC])
        refine take_at (i := 5) (d := some 11) (v := .pointer (some ⟨b.j, 0, none⟩)) rfl rfl (by kernel_rfl) (by kernel_rfl) (by kernel_rfl) (fun _ _ _ h => h) (Or.inl ⟨by kernel_rfl, ?_⟩) hHeld ?_
        · intro w hSw; have c0 := StoreAt.c0 hSw; go_simp
        (try simp only [Act.put, puA, puB, puC])
        refine wpAnyH_ready (rs := [1]) (by kernel_rfl) (by simp) ?_
        refine AllReadyH.cons rfl (fun K hK => ?_) AllReadyH.nil
        go_simp
        (go_at_call 120; refine (HTG.out w1 HS1.out).mono ?_; rintro e w2 ⟨rfl, hB2⟩; have HS2 := Lib.hid (HS1.out.below hB2); have HB2 := Lib.hid (HB1.out.trans (hB2.mono HB1.out.size)); clear hB2 HS1 HB1)
        (try go_wp2_with fail)
        refine hK.out _ _ HS2.out (fun hHeld => ?_)
        clear hK K
        (try simp only [Act.put, puA, puB, puC])
        refine wpAnyH_ready (rs := [6]) (by kernel_rfl) (by simp) ?_
        refine AllReadyH.cons rfl (fun K hK => ?_) AllReadyH.nil
        go_simp
        (go_at_call 119; refine (HRM.out w2 HS2.out).mono ?_; rintro e w3 ⟨rfl, hw3⟩; subst hw3)
        (try go_wp2_with fail)
        refine hK.out _ _ HS2.out (fun hHeld => ?_)
        clear hK K
        (try simp only [Act.put, puA, puB, puC])
        refine take_at (i := 7) (d := some 13) (v := .bool true) rfl rfl (by kernel_rfl) (by kernel_rfl) (by kernel_rfl) (fun _ _ _ h => h) (Or.inl ⟨by kernel_rfl, ?_⟩) hHeld ?_
        · intro w hSw; have c0 := StoreAt.c0 hSw; go_simp
        (try simp only [Act.put, puA, puB, puC])
        refine wpAnyH_done (by kernel_rfl) ?_ _
        refine NoPanic.normal ?_
        clear HTG HRM HV HS
        go_wp2_with fail
        refine (HSY.out w2 HS2.out).mono ?_
        rintro e w4 ⟨rfl, hS4, hO4⟩
        have HS4 := Lib.hid hS4
        have HOO : Hid (Only [b.j, b.d, b.l, b.m, b.g, b.t] w w4) := Lib.hid ((Only.below HB2.out).trans (hO4.mono (by simp)))
        clear hS4 hO4 HSY HS2 HB2
        go_wp2_with fail
        go_ret
        exact ⟨rfl, HS4.out, HOO.out⟩
    · have HE : Hid (skeepE s = 0) := Lib.hid (by unfold skeepE; rw [if_neg hnn, if_neg hr])
      have HF : Hid (skeep s = sjoin s) := Lib.hid (by unfold skeep; rw [if_neg hnn, if_neg hr])
      have HJK : Hid (stog s ≤ s.r) := Lib.hid (by omega)
      have HOK := Lib.hid h.ok
      rw [HE.out, HF.out]
      clear HE HF h ho hnn hq0 hq1 HOK0
      have hr' : ¬ ((s.r : Int) < (stog s : Int)) := by omega
      have hr2 : decide ((s.r : Int) < (stog s : Int)) = false := decide_eq_false hr'
      generalize hTT : stog s = T at HTG hT5 hr hr' hr2
      generalize hRR : s.r = rr at HRM hR5 hr hr' hr2
      clear hTT hRR
      go_enter Tryz.func78, Tryz.ntmps78
      go_wp2_with (go_at_call 71; refine HV.out.mono ?_; rintro e w' ⟨rfl, rfl⟩)
      refine wp_region_noPanic ?_
      refine wp_region_held_drew (S := fun W => StoreAt W b s) (by kernel_rfl) HS.out.drew (fun hHeld => ?_)
      have HB1 : Hid (Below w.heap.size w w.drew) := Lib.hid (Below.refl _ _).drew
      have HS1 := Lib.hid HS.out.drew
      generalize w.drew = w1 at HB1 HS1 hHeld ⊢
      refine take_at (i := 0) (d := some 6) (v := .pointer (some ⟨b.s, 0, none⟩)) rfl rfl (by kernel_rfl) (by kernel_rfl) (by kernel_rfl) (fun _ _ _ h => h) (Or.inl ⟨by kernel_rfl, ?_⟩) hHeld ?_
      · intro w hSw; have c0 := StoreAt.c0 hSw; go_simp
      (try simp only [Act.put, puA, puB, puC])
      refine take_at (i := 2) (d := some 8) (v := .pointer (some ⟨b.s, 0, none⟩)) rfl rfl (by kernel_rfl) (by kernel_rfl) (by kernel_rfl) (fun _ _ _ h => h) (Or.inl ⟨by kernel_rfl, ?_⟩) hHeld ?_
      · intro w hSw; have c0 := StoreAt.c0 hSw; go_simp
      (try simp only [Act.put, puA, puB, puC])
      refine take_at (i := 3) (d := some 9) (v := .pointer (some ⟨b.s, 0, none⟩)) rfl rfl (by kernel_rfl) (by kernel_rfl) (by kernel_rfl) (fun _ _ _ h => h) (Or.inl ⟨by kernel_rfl, ?_⟩) hHeld ?_
      · intro w hSw; have c0 := StoreAt.c0 hSw; go_simp
      (try simp only [Act.put, puA, puB, puC])
      refine take_at (i := 4) (d := some 10) (v := .pointer (some ⟨b.s, 0, none⟩)) rfl rfl (by kernel_rfl) (by kernel_rfl) (by kernel_rfl) (fun _ _ _ h => h) (Or.inl ⟨by kernel_rfl, ?_⟩) hHeld ?_
      · intro w hSw; have c0 := StoreAt.c0 hSw; go_simp
      (try simp only [Act.put, puA, puB, puC])
      refine take_at (i := 5) (d := some 11) (v := .pointer (some ⟨b.j, 0, none⟩)) rfl rfl (by kernel_rfl) (by kernel_rfl) (by kernel_rfl) (fun _ _ _ h => h) (Or.inl ⟨by kernel_rfl, ?_⟩) hHeld ?_
      · intro w hSw; have c0 := StoreAt.c0 hSw; go_simp
      (try simp only [Act.put, puA, puB, puC])
      refine wpAnyH_ready (rs := [1]) (by kernel_rfl) (by simp) ?_
      refine AllReadyH.cons rfl (fun K hK => ?_) AllReadyH.nil
      go_simp
      (go_at_call 120; refine (HTG.out w1 HS1.out).mono ?_; rintro e w2 ⟨rfl, hB2⟩; have HS2 := Lib.hid (HS1.out.below hB2); have HB2 := Lib.hid (HB1.out.trans (hB2.mono HB1.out.size)); clear hB2 HS1 HB1)
      (try go_wp2_with fail)
      refine hK.out _ _ HS2.out (fun hHeld => ?_)
      clear hK K
      (try simp only [Act.put, puA, puB, puC])
      refine wpAnyH_ready (rs := [6]) (by kernel_rfl) (by simp) ?_
      refine AllReadyH.cons rfl (fun K hK => ?_) AllReadyH.nil
      go_simp
      (go_at_call 119; refine (HRM.out w2 HS2.out).mono ?_; rintro e w3 ⟨rfl, hw3⟩; subst hw3)
      (try go_wp2_with fail)
      refine hK.out _ _ HS2.out (fun hHeld => ?_)
      clear hK K
      (try simp only [Act.put, puA, puB, puC])
      refine take_at (i := 7) (d := some 13) (v := .bool false) rfl rfl (by kernel_rfl) (by kernel_rfl) (by kernel_rfl) (fun _ _ _ h => h) (Or.inl ⟨by kernel_rfl, ?_⟩) hHeld ?_
      · intro w hSw; have c0 := StoreAt.c0 hSw; go_simp
      (try simp only [Act.put, puA, puB, puC])
      refine wpAnyH_done (by kernel_rfl) ?_ _
      refine NoPanic.normal ?_
      have HOO : Hid (Only [b.j, b.d, b.l, b.m, b.g, b.t] w w2) := Lib.hid (Only.below HB2.out)
      clear HTG HRM HV HS HSY HB2
      go_wp2_with fail
      refine wp_region_noPanic ?_
      refine wp_region_held_drew (S := fun W => W.cell? ⟨b.s, 4, none⟩ = some (.map (some b.t)) ∧ W.cell? ⟨b.s, 5, none⟩ = some (.map (some b.g))) (by kernel_rfl) ⟨HS2.out.drew.c4, HS2.out.drew.c5⟩ (fun hHeld => ?_)
      have HO5 : Hid (Only [b.j, b.d, b.l, b.m, b.g, b.t] w w2.drew) := Lib.hid (HOO.out.drew)
      have HS5 := Lib.hid HS2.out.drew
      clear HOO
      generalize w2.drew = w5 at HO5 HS5 hHeld ⊢
      refine take_at (i := 0) (d := some 19) (v := .pointer (some ⟨b.s, 0, none⟩)) rfl rfl (by kernel_rfl) (by kernel_rfl) (by kernel_rfl) (fun _ _ _ h => h) (Or.inl ⟨by kernel_rfl, ?_⟩) hHeld ?_
      · intro w hSw; have c4 := hSw.1; have c5 := hSw.2; go_simp
      (try simp only [Act.put, puA, puB, puC])
      refine take_at (i := 1) (d := some 20) (v := .pointer (some ⟨b.s, 0, none⟩)) rfl rfl (by kernel_rfl) (by kernel_rfl) (by kernel_rfl) (fun _ _ _ h => h) (Or.inl ⟨by kernel_rfl, ?_⟩) hHeld ?_
      · intro w hSw; have c4 := hSw.1; have c5 := hSw.2; go_simp
      (try simp only [Act.put, puA, puB, puC])
      refine take_at (i := 2) (d := some 21) (v := .pointer (some ⟨b.s, 5, none⟩)) rfl rfl (by kernel_rfl) (by kernel_rfl) (by kernel_rfl) (fun _ _ _ h => h) (Or.inl ⟨by kernel_rfl, ?_⟩) hHeld ?_
      · intro w hSw; have c4 := hSw.1; have c5 := hSw.2; go_simp
      (try simp only [Act.put, puA, puB, puC])
      refine take_at (i := 3) (d := some 22) (v := .map (some b.g)) rfl rfl (by kernel_rfl) (by kernel_rfl) (by kernel_rfl) (fun _ _ _ h => h) (Or.inl ⟨by kernel_rfl, ?_⟩) hHeld ?_
      · intro w hSw; have c4 := hSw.1; have c5 := hSw.2; go_simp
      (try simp only [Act.put, puA, puB, puC])
      refine take_at (i := 4) (d := some 23) (v := .pointer (some ⟨b.s, 0, none⟩)) rfl rfl (by kernel_rfl) (by kernel_rfl) (by kernel_rfl) (fun _ _ _ h => h) (Or.inl ⟨by kernel_rfl, ?_⟩) hHeld ?_
      · intro w hSw; have c4 := hSw.1; have c5 := hSw.2; go_simp
      (try simp only [Act.put, puA, puB, puC])
      refine take_at (i := 5) (d := some 24) (v := .pointer (some ⟨b.s, 0, none⟩)) rfl rfl (by kernel_rfl) (by kernel_rfl) (by kernel_rfl) (fun _ _ _ h => h) (Or.inl ⟨by kernel_rfl, ?_⟩) hHeld ?_
      · intro w hSw; have c4 := hSw.1; have c5 := hSw.2; go_simp
      (try simp only [Act.put, puA, puB, puC])
      refine take_at (i := 6) (d := some 25) (v := .pointer (some ⟨b.s, 4, none⟩)) rfl rfl (by kernel_rfl) (by kernel_rfl) (by kernel_rfl) (fun _ _ _ h => h) (Or.inl ⟨by kernel_rfl, ?_⟩) hHeld ?_
      · intro w hSw; have c4 := hSw.1; have c5 := hSw.2; go_simp
      (try simp only [Act.put, puA, puB, puC])
      refine take_at (i := 7) (d := some 26) (v := .map (some b.t)) rfl rfl (by kernel_rfl) (by kernel_rfl) (by kernel_rfl) (fun _ _ _ h => h) (Or.inl ⟨by kernel_rfl, ?_⟩) hHeld ?_
      · intro w hSw; have c4 := hSw.1; have c5 := hSw.2; go_simp
      (try simp only [Act.put, puA, puB, puC])
      refine wpAnyH_ready (rs := [8]) (by kernel_rfl) (by simp) ?_
      refine AllReadyH.cons rfl (fun K hK => ?_) AllReadyH.nil
      go_simp
      (go_at_call 122; refine (copy_store HS5.out HJK.out).mono ?_; rintro e w6 ⟨rfl, hS6, hO6⟩; have HS6 := Lib.hid hS6; have HO6 := Lib.hid (HO5.out.trans (hO6.mono (by simp))); clear hS6 hO6 HS5 HO5)
      (try go_wp2_with fail)
      refine hK.out _ _ ⟨HS6.out.c4, HS6.out.c5⟩ (fun hHeld => ?_)
      clear hK K
      (try simp only [Act.put, puA, puB, puC])
      refine wpAnyH_done (by kernel_rfl) ?_ _
      refine NoPanic.normal ?_
      have c4 := HS6.out.c4
      obtain ⟨w7, hcl0, hmp, htn⟩ := HS6.out.step.clear (s).dk.last.length 0
      have hcl : ∀ ty, (Builtin.clear_ #[91] ty #[.map (some b.t)]).run Tryz.prog w6 = .ok (.tuple #[]) w7 := fun ty => hcl0
      have HM := Lib.hid hmp
      have HT := Lib.hid htn
      clear hcl0 hmp htn
      go_wp2_with fail
      go_ret
      have ho : Only [b.t] w6 w7 := Only.grown HT.out.grown (by simp)
      refine ⟨rfl, ?_, HO6.out.trans (ho.mono (by simp))⟩
      unfold sjoin
      exact HS6.out.setStep ho HM.out (sjoin_ok HOK.out HJK.out)
end

section
open Go.RowKit Go.Maps
open Dk (zeros zeros_length)
open Hd (Head rightB pageH)
open Jn (Chg quietH liveH Cl Quiet LiveD May Same upd)
end

section
open Dk (zeros zeros_length)
open Go.RowKit
theorem plJournal_any (p i : Int) (w : World) :
    Calls Tryz.prog 59 #[planV p i] w fun e w' => e = .returned (.int .i64 (if Pl.rightB p i = true then 1 else 0)) ∧ Below w.heap.size w w' := by
  have HF := Lib.hid (fun w => ifRight_any p i 1 w)
  generalize (if Pl.rightB p i = true then (1 : Int) else 0) = r at HF ⊢
  unfold planV at HF ⊢
  go_enter Tryz.func59, Tryz.ntmps59
  go_wp2_with (go_at_call 86; refine (HF.out _).mono ?_; rintro e w' ⟨rfl, hb⟩)
  go_ret
  exact ⟨rfl, (plan_box w p i (by simpa using hb)).2.1⟩
theorem plInodeBits_any (p i : Int) (w : World) :
    Calls Tryz.prog 41 #[planV p i] w fun e w' => e = .returned (.int .i64 (if Pl.rightB p i = true then 41 else 0)) ∧ Below w.heap.size w w' := by
  have HF := Lib.hid (fun w => ifRight_any p i 41 w)
  generalize (if Pl.rightB p i = true then (41 : Int) else 0) = r at HF ⊢
  unfold planV at HF ⊢
  go_enter Tryz.func41, Tryz.ntmps41
  go_wp2_with (go_at_call 86; refine (HF.out _).mono ?_; rintro e w' ⟨rfl, hb⟩)
  go_ret
  exact ⟨rfl, (plan_box w p i (by simpa using hb)).2.1⟩
theorem plDataBits_any (p i : Int) (w : World) :
    Calls Tryz.prog 151 #[planV p i] w fun e w' => e = .returned (.int .i64 (if Pl.rightB p i = true then 42 else 0)) ∧ Below w.heap.size w w' := by
  have HF := Lib.hid (fun w => ifRight_any p i 42 w)
  generalize (if Pl.rightB p i = true then (42 : Int) else 0) = r at HF ⊢
  unfold planV at HF ⊢
  go_enter Tryz.func151, Tryz.ntmps151
  go_wp2_with (go_at_call 86; refine (HF.out _).mono ?_; rintro e w' ⟨rfl, hb⟩)
  go_ret
  exact ⟨rfl, (plan_box w p i (by simpa using hb)).2.1⟩
theorem plData_yes (p i : Int) (w : World) (h : Pl.rightB p i = true) :
    Calls Tryz.prog 99 #[planV p i] w fun e w' => e = .returned (.int .i64 (Pl.dataN i)) ∧ Below w.heap.size w w' := by
  have hr := Pl.right_yes h
  unfold planV
  go_enter Tryz.func99, Tryz.ntmps99
  go_wp2_with (first
    | (go_at_call 95; refine (right_is p i _ _ h).mono ?_; rintro e w' ⟨rfl, hb⟩; have HB := Lib.hid (plan_box w p i (by simpa using hb)); have hc1 := HB.out.1.cell 1 _ rfl; clear hb)
    | (go_at_call 138; refine (dataAt_any i _ (by omega) (by omega)).mono ?_; rintro e w2 ⟨rfl, rfl⟩))
  go_ret
  exact ⟨rfl, HB.out.2.1⟩
theorem plRoom_yes (p i : Int) (w : World) (h : Pl.rightB p i = true) :
    Calls Tryz.prog 123 #[planV p i] w fun e w' => e = .returned (.int .i64 (p - Pl.dataN i)) ∧ Below w.heap.size w w' := by
  obtain ⟨r1, r2, r3, r4⟩ := Pl.right_yes h
  have hd := Pl.data_bd r1 r2
  have HC := Lib.hid (fun w => dataAt_any i w (by omega) (by omega))
  unfold planV
  go_enter Tryz.func123, Tryz.ntmps123
  go_wp2_with (go_at_call 95; refine (right_is p i _ _ h).mono ?_; rintro e w' ⟨rfl, hb⟩; have HB := Lib.hid (plan_box w p i (by simpa using hb)); have hc1 := HB.out.1.cell 1 _ rfl; have hc0 := HB.out.1.cell 0 _ rfl; clear hb)
  go_quiet ((go_at_call 138; refine Calls.quiet_of_same ((HC.out _).mono fun e w' h => ⟨h.1, h.2.symm⟩)))
  go_wp2
  go_ret
  exact ⟨rfl, HB.out.2.1.trans (lbelow_drewN _ _ _)⟩
theorem plRoom_no (p i : Int) (w : World) (h : Pl.rightB p i = false) :
    Calls Tryz.prog 123 #[planV p i] w fun e w' => e = .returned (.int .i64 0) ∧ Below w.heap.size w w' := by
  unfold planV
  go_enter Tryz.func123, Tryz.ntmps123
  go_wp2_with (go_at_call 95; refine (right_is p i _ _ h).mono ?_; rintro e w' ⟨rfl, hb⟩; have HB := Lib.hid (plan_box w p i (by simpa using hb)); clear hb)
  go_ret
  exact ⟨rfl, HB.out.2.1⟩
theorem place_yes (p i n : Int) (w : World) (h : Pl.rightB p i = true) (h1 : 1 ≤ n) (h2 : n ≤ i) :
    Calls Tryz.prog 82 #[planV p i, .int .i64 n] w fun e w' => e = .returned (.tuple #[.int .i64 (43 + (n - 1) / 2), .int .i64 ((n - 1) % 2)]) ∧ Below w.heap.size w w' := by
  obtain ⟨r1, r2, r3, r4⟩ := Pl.right_yes h
  have g1 : decide (n < 1) = false := decide_eq_false (by omega)
  have g2 : decide (i < n) = false := decide_eq_false (by omega)
  unfold planV
  go_enter Tryz.func82, Tryz.ntmps82
  go_wp2_with (go_at_call 95; refine (right_is p i _ _ h).mono ?_; rintro e w' ⟨rfl, hb⟩; have HB := Lib.hid (plan_box w p i (by simpa using hb)); have hc1 := HB.out.1.cell 1 _ rfl; clear hb)
  go_ret2
  exact ⟨rfl, HB.out.2.1⟩
theorem place_no (p i n : Int) (w : World) (h : Pl.rightB p i = true) (h1 : n < 1 ∨ i < n) :
    Calls Tryz.prog 82 #[planV p i, .int .i64 n] w fun e w' => e = .returned (.tuple #[.int .i64 0, .int .i64 0]) ∧ Below w.heap.size w w' := by
  unfold planV
  by_cases c : n < 1
  · go_enter Tryz.func82, Tryz.ntmps82
    go_wp2_with (go_at_call 95; refine (right_is p i _ _ h).mono ?_; rintro e w' ⟨rfl, hb⟩; have HB := Lib.hid (plan_box w p i (by simpa using hb)); have hc1 := HB.out.1.cell 1 _ rfl; clear hb)
    go_ret2
    exact ⟨rfl, HB.out.2.1⟩
  · have c2 : i < n := by omega
    go_enter Tryz.func82, Tryz.ntmps82
    go_wp2_with (go_at_call 95; refine (right_is p i _ _ h).mono ?_; rintro e w' ⟨rfl, hb⟩; have HB := Lib.hid (plan_box w p i (by simpa using hb)); have hc1 := HB.out.1.cell 1 _ rfl; clear hb)
    go_ret2
    exact ⟨rfl, HB.out.2.1⟩
theorem bit_yes (p i n : Int) (w : World) (h : Pl.rightB p i = true) (h1 : Pl.dataN i ≤ n) (h2 : n < p) :
    Calls Tryz.prog 155 #[planV p i, .int .i64 n] w fun e w' => e = .returned (.int .i64 (n - Pl.dataN i)) ∧ Below w.heap.size w w' := by
  obtain ⟨r1, r2, r3, r4⟩ := Pl.right_yes h
  have hd := Pl.data_bd r1 r2
  have g1 : decide (n < Pl.dataN i) = false := decide_eq_false (by omega)
  have g2 : decide (p ≤ n) = false := decide_eq_false (by omega)
  unfold planV
  go_enter Tryz.func155, Tryz.ntmps155
  go_wp2_with (first
    | (go_at_call 95; refine (right_is p i _ _ h).mono ?_; rintro e w' ⟨rfl, hb⟩; have HB := Lib.hid (plan_box w p i (by simpa using hb)); have hc1 := HB.out.1.cell 1 _ rfl; have hc0 := HB.out.1.cell 0 _ rfl; clear hb)
    | (go_at_call 138; refine (dataAt_any i _ (by omega) (by omega)).mono ?_; rintro e w2 ⟨rfl, rfl⟩))
  go_ret
  exact ⟨rfl, HB.out.2.1⟩
theorem bit_no (p i n : Int) (w : World) (h : Pl.rightB p i = true) (h1 : n < Pl.dataN i ∨ p ≤ n) :
    Calls Tryz.prog 155 #[planV p i, .int .i64 n] w fun e w' => e = .returned (.int .i64 (-1)) ∧ Below w.heap.size w w' := by
  obtain ⟨r1, r2, r3, r4⟩ := Pl.right_yes h
  have hd := Pl.data_bd r1 r2
  unfold planV
  by_cases c : n < Pl.dataN i
  · have g1 : decide (n < Pl.dataN i) = true := decide_eq_true c
    go_enter Tryz.func155, Tryz.ntmps155
    go_wp2_with (first
      | (go_at_call 95; refine (right_is p i _ _ h).mono ?_; rintro e w' ⟨rfl, hb⟩; have HB := Lib.hid (plan_box w p i (by simpa using hb)); have hc1 := HB.out.1.cell 1 _ rfl; have hc0 := HB.out.1.cell 0 _ rfl; clear hb)
      | (go_at_call 138; refine (dataAt_any i _ (by omega) (by omega)).mono ?_; rintro e w2 ⟨rfl, rfl⟩))
    go_ret
    exact ⟨rfl, HB.out.2.1⟩
  · have g1 : decide (n < Pl.dataN i) = false := decide_eq_false c
    have g2 : decide (p ≤ n) = true := decide_eq_true (by omega)
    go_enter Tryz.func155, Tryz.ntmps155
    go_wp2_with (first
      | (go_at_call 95; refine (right_is p i _ _ h).mono ?_; rintro e w' ⟨rfl, hb⟩; have HB := Lib.hid (plan_box w p i (by simpa using hb)); have hc1 := HB.out.1.cell 1 _ rfl; have hc0 := HB.out.1.cell 0 _ rfl; clear hb)
      | (go_at_call 138; refine (dataAt_any i _ (by omega) (by omega)).mono ?_; rintro e w2 ⟨rfl, rfl⟩))
    go_ret
    exact ⟨rfl, HB.out.2.1⟩
theorem at_yes (p i n : Int) (w : World) (h : Pl.rightB p i = true) (h1 : 0 ≤ n) (h2 : n < p - Pl.dataN i) :
    Calls Tryz.prog 153 #[planV p i, .int .i64 n] w fun e w' => e = .returned (.int .i64 (Pl.dataN i + n)) ∧ Below w.heap.size w w' := by
  obtain ⟨r1, r2, r3, r4⟩ := Pl.right_yes h
  have hd := Pl.data_bd r1 r2
  have g1 : decide (n < 0) = false := decide_eq_false (by omega)
  have g2 : decide (p - Pl.dataN i ≤ n) = false := decide_eq_false (by omega)
  have HD := Lib.hid (fun w => plData_yes p i w h)
  have HR := Lib.hid (fun w => plRoom_yes p i w h)
  unfold planV at HD HR ⊢
  go_enter Tryz.func153, Tryz.ntmps153
  go_wp2_with (first
    | (go_at_call 123; refine (HR.out _).mono ?_; rintro e w' ⟨rfl, hb⟩; have HB := Lib.hid (plan_box w p i (by simpa using hb)); have hc1 := HB.out.1.cell 1 _ rfl; have hc0 := HB.out.1.cell 0 _ rfl; clear hb)
    | (go_at_call 99; refine (HD.out _).mono ?_; rintro e w2 ⟨rfl, hb2⟩))
  go_ret
  exact ⟨rfl, HB.out.2.1.trans (hb2.mono HB.out.2.1.size)⟩
end

section
open Go.RowKit
section
variable {P : Program} {ops : Array Oper} {Q : Exit → Act → World → Prop} {md : Region.Mode} {σ : Type} {S : σ → World → Prop} {sp : Nat → Bool} {vals : Nat → Value} {B : List PanicEntry → World → Prop}
theorem put_defers (a : Act) (d : Option Tmp) (v : Value) : (a.put d v).defers = a.defers := by
  cases d <;> rfl
def GivesP (P : Program) (m : Sem Next) (w : World) (R : Value → World → Prop) (B : List PanicEntry → World → Prop) : Prop :=
  match m.run P w with
  | .ok (.value u) w' => R u w'
  | .ok .skip w' => R undef w'
  | .ok (.enter f args) w' => Calls P f args w' fun e w'' => (∃ u, e = .returned u ∧ R u w'') ∨ (∃ ch, e = .panicked ch ∧ B ch w'')
  | _ => False
theorem GivesP.wp {o : Oper} {a : Act} {w : World} {R : Value → World → Prop} {K : Act → World → Prop} (h : GivesP P (execOp a.eval o) w R B) (hK : ∀ u w', R u w' → K (a.put o.dst u) w') (hB : ∀ ch w', B ch w' → Q (.panic ch) a w') : Oper.wp P o a w K Q := by
  unfold GivesP at h
  unfold Oper.wp
  generalize (execOp a.eval o).run P w = r at *
  cases r with
  | halt x w' => exact h.elim
  | ok n w' =>
    cases n <;> simp only [Oper.upon] at h ⊢
    case value u => exact hK _ _ h
    case skip => exact hK _ _ h
    case enter f args =>
      refine h.mono fun e w'' hh => ?_
      rcases hh with ⟨u, hu, hR⟩ | ⟨ch, hc, hb⟩
      · subst hu
        exact hK _ _ hR
      · subst hc
        exact hB _ _ hb
theorem givesP_of {m : Sem Next} {w : World} {R : Value → World → Prop} (h : Gives P m w R) : GivesP P m w R B := by
  unfold Gives at h
  unfold GivesP
  generalize m.run P w = r at *
  cases r with
  | halt x w' => exact h
  | ok n w' =>
    cases n <;> simp only at h ⊢
    case value u => exact h
    case skip => exact h
    case enter f args => exact h.mono fun e w'' hh => Or.inl hh
theorem givesP_call {m : Sem Next} {w : World} {R : Value → World → Prop} {f : FuncId} {args : Array Value} (h : m.run P w = .ok (.enter f args) w) (hR : Calls P f args w fun e w'' => (∃ u, e = .returned u ∧ R u w'') ∨ (∃ ch, e = .panicked ch ∧ B ch w'')) : GivesP P m w R B := by
  unfold GivesP; rw [h]; exact hR
def SpecAtP (P : Program) (ops : Array Oper) (S : σ → World → Prop) (B : List PanicEntry → World → Prop) (s : σ) (o : Oper) (a : Act) (N : Value → σ → Prop) : Prop :=
  Region.wanted o (yielded ops a.tmps) = true ∧ ∀ w, S s w → GivesP P (execOp a.eval o) w (fun u w' => ∃ s', N u s' ∧ S s' w') B
theorem SpecAtP.put {oi oj : Oper} {s : σ} {u : Value} {N : Value → σ → Prop} {a : Act} (hs : ∀ cs b, oi.op ≠ .select cs b) (h : ∀ d, oj.dst = some d → d ∉ oi.looksAt ops) (hy : SpecAtP P ops S B s oi a N) : SpecAtP P ops S B s oi (a.put oj.dst u) N := by
  unfold SpecAtP at *
  rw [execOp_put oi hs a oj.dst u h, wanted_put oi a oj.dst u h]
  exact hy
theorem SpecAtP.unput {oi oj : Oper} {s : σ} {u : Value} {N : Value → σ → Prop} {a : Act} (hs : ∀ cs b, oj.op ≠ .select cs b) (h : ∀ d, oi.dst = some d → d ∉ oj.looksAt ops) (hy : SpecAtP P ops S B s oj (a.put oi.dst u) N) : SpecAtP P ops S B s oj a N := by
  unfold SpecAtP at *
  rw [execOp_put oj hs a oi.dst u h, wanted_put oj a oi.dst u h] at hy
  exact hy
def lastB (ops : Array Oper) (i : Nat) : Bool := (List.range ops.size).all fun k => k == i || match ops[i]? with
  | some o => o.after.any fun e => Region.binds .any e && e.on == k
  | none => false
def LastOp (md : Region.Mode) (ops : Array Oper) (i : Nat) : Prop := ∀ listed, i ∈ Region.ready md ops listed → ∀ k, k < ops.size → k ≠ i → listed.getD k true = true
inductive LinP (P : Program) (md : Region.Mode) (ops : Array Oper) (Q : Exit → Act → World → Prop) (S : σ → World → Prop) (B : List PanicEntry → World → Prop) (sp : Nat → Bool) (vals : Nat → Value) : Nat → σ → Array Bool → Act → Prop
  | done {n : Nat} {s : σ} {listed : Array Bool} {a : Act} (hr : Region.ready md ops listed = []) (hQ : ∀ w, S s w → Q .normal a w) : LinP P md ops Q S B sp vals n s listed a
  | ord {n : Nat} {s : σ} {listed : Array Bool} {a : Act} (i : Nat) (o : Oper) (hi : ops[i]? = some o) (hr : i ∈ Region.ready md ops listed) (hf : FreeAt md ops listed i o) (hsp : sp i = false)
      (hy : OrdAt P ops S o (vals i) a) (h : LinP P md ops Q S B sp vals n s (listed.setIfInBounds i true) (a.put o.dst (vals i))) : LinP P md ops Q S B sp vals (n + 1) s listed a
  | spec {n : Nat} {s : σ} {listed : Array Bool} {a : Act} (i : Nat) (o : Oper) (N : Value → σ → Prop) (hi : ops[i]? = some o) (hr : i ∈ Region.ready md ops listed) (hf : FreeAt md ops listed i o) (hsp : sp i = true)
      (hw : ∃ D : Nat → Bool, WaitsFor md ops sp listed i D)
      (hN : ∃ u s', N u s') (hy : SpecAtP P ops S B s o a N) (h : ∀ u s', N u s' → LinP P md ops Q S B sp vals n s' (listed.setIfInBounds i true) (a.put o.dst u)) : LinP P md ops Q S B sp vals (n + 1) s listed a
  | last {n : Nat} {s : σ} {listed : Array Bool} {a : Act} (i : Nat) (o : Oper) (hi : ops[i]? = some o) (hr : i ∈ Region.ready md ops listed) (hsp : sp i = true) (hl : LastOp md ops i)
      (hw : Region.wanted o (yielded ops a.tmps) = true) (hy : ∀ w, S s w → GivesP P (execOp a.eval o) w (fun u w' => Q .normal (a.put o.dst u) w') B) : LinP P md ops Q S B sp vals (n + 1) s listed a
variable (hsel : ∀ (j : Nat) (o : Oper) cs b, ops[j]? = some o → o.op ≠ .select cs b)
include hsel
theorem LinP.first : ∀ (n : Nat) (s : σ) (listed : Array Bool) (a : Act) (j : Nat) (oj : Oper), LinP P md ops Q S B sp vals n s listed a → j ∈ Region.ready md ops listed → ops[j]? = some oj → sp j = false →
    OrdAt P ops S oj (vals j) a ∧ ∃ m, n = m + 1 ∧ LinP P md ops Q S B sp vals m s (listed.setIfInBounds j true) (a.put oj.dst (vals j)) := by
  intro n
  induction n with
  | zero =>
    intro s listed a j oj hl hj _ _
    cases hl with
    | done hr _ => rw [hr] at hj; cases hj
  | succ n ih =>
    intro s listed a j oj hl hj hoj hsj
    cases hl with
    | done hr _ => rw [hr] at hj; cases hj
    | ord i o hi hr hf hsp hy h =>
      by_cases hji : j = i
      · subst hji
        rw [hi] at hoj
        injection hoj with hoj
        subst hoj
        exact ⟨hy, n, rfl, h⟩
      · obtain ⟨h1, m, rfl, h2⟩ := ih _ _ _ j oj h (ready_mono hj hji) hoj hsj
        obtain ⟨a1, a2, a3⟩ := Oper.apart_spec (hf j oj hoj hji (mem_ready.1 hj).1 (waits_not hr hj hoj))
        refine ⟨h1.unput (fun cs b => hsel j oj cs b hoj) a1, m + 1, rfl, LinP.ord i o hi (ready_mono hr (Ne.symm hji)) hf.set hsp (hy.put (fun cs b => hsel i o cs b hi) a3) ?_⟩
        rw [← Act.put_comm a _ _ a2, Array.setIfInBounds_comm _ _ hji]
        exact h2
    | spec i o N hi hr hf hsp hw hN hy h =>
      have hji : j ≠ i := fun e => by rw [e, hsp] at hsj; cases hsj
      obtain ⟨a1, a2, a3⟩ := Oper.apart_spec (hf j oj hoj hji (mem_ready.1 hj).1 (waits_not hr hj hoj))
      obtain ⟨u0, s0, hN0⟩ := hN
      obtain ⟨h1, m, rfl, _⟩ := ih _ _ _ j oj (h u0 s0 hN0) (ready_mono hj hji) hoj hsj
      refine ⟨h1.unput (fun cs b => hsel j oj cs b hoj) a1, m + 1, rfl, LinP.spec i o N hi (ready_mono hr (Ne.symm hji)) hf.set hsp (hw.imp fun _ hW => hW.set hr hj) ⟨u0, s0, hN0⟩ (hy.put (fun cs b => hsel i o cs b hi) a3) ?_⟩
      intro u s' hus
      obtain ⟨_, m', hm', h2⟩ := ih _ _ _ j oj (h u s' hus) (ready_mono hj hji) hoj hsj
      obtain rfl : m = m' := by omega
      rw [← Act.put_comm a _ _ a2, Array.setIfInBounds_comm _ _ hji]
      exact h2
    | last i o hi hr hsp hlo _ _ =>
      have hji : j ≠ i := fun e => by rw [e, hsp] at hsj; cases hsj
      have h1 := hlo _ hr j (Array.getElem?_eq_some_iff.1 hoj).1 hji
      rw [(mem_ready.1 hj).1] at h1
      cases h1
theorem LinP.turns : ∀ (n : Nat) (s : σ) (listed : Array Bool) (a : Act) (j : Nat) (oj : Oper), LinP P md ops Q S B sp vals n s listed a → j ∈ Region.ready md ops listed → ops[j]? = some oj → sp j = true →
    (∃ N, SpecAtP P ops S B s oj a N ∧ ∃ m, n = m + 1 ∧ ∀ u s', N u s' → LinP P md ops Q S B sp vals m s' (listed.setIfInBounds j true) (a.put oj.dst u)) ∨
    (LastOp md ops j ∧ Region.wanted oj (yielded ops a.tmps) = true ∧ ∀ w, S s w → GivesP P (execOp a.eval oj) w (fun u w' => Q .normal (a.put oj.dst u) w') B) := by
  intro n
  induction n with
  | zero =>
    intro s listed a j oj hl hj _ _
    cases hl with
    | done hr _ => rw [hr] at hj; cases hj
  | succ n ih =>
    intro s listed a j oj hl hj hoj hsj
    cases hl with
    | done hr _ => rw [hr] at hj; cases hj
    | ord i o hi hr hf hsp hy h =>
      have hji : j ≠ i := fun e => by rw [e, hsp] at hsj; cases hsj
      rcases ih _ _ _ j oj h (ready_mono hj hji) hoj hsj with ⟨N, h1, m, rfl, h2⟩ | ⟨hlo, _⟩
      case inr =>
        have h1 := hlo _ hj i (Array.getElem?_eq_some_iff.1 hi).1 (Ne.symm hji)
        rw [(mem_ready.1 hr).1] at h1
        cases h1
      obtain ⟨a1, a2, a3⟩ := Oper.apart_spec (hf j oj hoj hji (mem_ready.1 hj).1 (waits_not hr hj hoj))
      refine Or.inl ⟨N, h1.unput (fun cs b => hsel j oj cs b hoj) a1, m + 1, rfl, fun u s' hus => LinP.ord i o hi (ready_mono hr (Ne.symm hji)) hf.set hsp (hy.put (fun cs b => hsel i o cs b hi) a3) ?_⟩
      rw [← Act.put_comm a _ _ a2, Array.setIfInBounds_comm _ _ hji]
      exact h2 u s' hus
    | spec i o N hi hr hf hsp hw hN hy h =>
      by_cases hji : j = i
      · subst hji
        rw [hi] at hoj
        injection hoj with hoj
        subst hoj
        exact Or.inl ⟨N, hy, n, rfl, h⟩
      · obtain ⟨D, hW⟩ := hw
        have h1 := hW.1 j oj hoj hsj hji (mem_ready.1 hj).1
        rw [hW.not_ready hr hj] at h1
        cases h1
    | last i o hi hr hsp hlo hw hy =>
      by_cases hji : j = i
      · subst hji
        rw [hi] at hoj
        injection hoj with hoj
        subst hoj
        exact Or.inr ⟨hlo, hw, hy⟩
      · have h1 := hlo _ hr j (Array.getElem?_eq_some_iff.1 hoj).1 hji
        rw [(mem_ready.1 hj).1] at h1
        cases h1
omit hsel in
theorem last_none {n i : Nat} {listed : Array Bool} {a : Act} {w : World} (hlo : LastOp md ops i) (hr : i ∈ Region.ready md ops listed) (h : Q .normal a w) : wpAny P md ops Q n (listed.setIfInBounds i true) a w := by
  have hz : Region.ready md ops (listed.setIfInBounds i true) = [] := by
    rw [List.eq_nil_iff_forall_not_mem]
    intro k hk
    obtain ⟨h1, ok, h2, _⟩ := mem_ready.1 hk
    have hkl := (Array.getElem?_eq_some_iff.1 h2).1
    by_cases e : k = i
    · subst e
      have hu := (mem_ready.1 hr).1
      have hks : k < listed.size := by
        rcases Nat.lt_or_ge k listed.size with c | c
        · exact c
        · simp [Array.getElem?_eq_none c] at hu
      simp [hks] at h1
    · have := hlo _ hr k hkl e
      rw [getD_set_ne true (Ne.symm e)] at h1
      rw [this] at h1
      cases h1
  cases n with
  | zero => exact ⟨hz, h⟩
  | succ n => exact ⟨fun _ => h, fun j hj => by rw [hz] at hj; cases hj⟩
theorem LinP.any {D : List Deferred} (hB : ∀ ch (a : Act) w, a.defers = D → B ch w → Q (.panic ch) a w) : ∀ (n : Nat) (s : σ) (listed : Array Bool) (a : Act) (w : World), LinP P md ops Q S B sp vals n s listed a → S s w → a.defers = D → wpAny P md ops Q n listed a w := by
  intro n
  induction n with
  | zero =>
    intro s listed a w hl hS hD
    cases hl with
    | done hr hQ => exact ⟨hr, hQ w hS⟩
  | succ n ih =>
    intro s listed a w hl hS hD
    refine ⟨fun h => ?_, fun j hj => ?_⟩
    · cases hl with
      | done hr hQ => exact hQ w hS
      | ord i o hi hr => rw [h] at hr; cases hr
      | spec i o N hi hr => rw [h] at hr; cases hr
      | last i o hi hr => rw [h] at hr; cases hr
    · obtain ⟨_, oj, hoj, _⟩ := mem_ready.1 hj
      unfold wpOp
      simp only [hoj]
      cases hsj : sp j with
      | false =>
        obtain ⟨h1, m, hm, h2⟩ := LinP.first hsel _ _ _ _ j oj hl hj hoj hsj
        obtain rfl : n = m := by omega
        rcases h1 with ⟨hw, hg⟩ | ⟨hw, hv⟩
        · rw [if_pos hw]
          refine Or.inl ((hg s w hS).wp fun u w' ⟨hu, hS'⟩ => ?_)
          subst hu
          exact ih _ _ _ _ h2 hS' ((put_defers _ _ _).trans hD)
        · rw [if_neg (by rw [hw]; exact Bool.false_ne_true)]
          rw [hv] at h2
          exact ih _ _ _ _ h2 hS ((put_defers _ _ _).trans hD)
      | true =>
        rcases LinP.turns hsel _ _ _ _ j oj hl hj hoj hsj with ⟨N, ⟨hw, hg⟩, m, hm, h2⟩ | ⟨hlo, hw, hg⟩
        case inr =>
          rw [if_pos hw]
          exact Or.inl ((hg w hS).wp (fun u w' hq => last_none hlo hj hq) (fun ch w' hb => hB ch a w' hD hb))
        obtain rfl : n = m := by omega
        rw [if_pos hw]
        exact Or.inl ((hg w hS).wp (fun u w' ⟨s', hu, hS'⟩ => ih _ _ _ _ (h2 u s' hu) hS' ((put_defers _ _ _).trans hD)) (fun ch w' hb => hB ch a w' hD hb))
end
section
variable {P : Program} {ops : Array Oper} {Q : Exit → Act → World → Prop} {σ : Type} {S : σ → World → Prop} {sp : Nat → Bool} {vals : Nat → Value} {B : List PanicEntry → World → Prop}
theorem wp_region_linp {id : Nat} {a : Act} {w : World} (S : σ → World → Prop) (B : List PanicEntry → World → Prop) (sp : Nat → Bool) (vals : Nat → Value) (s : σ) (hm : P.follows .mixedOrders = true) (hs : Region.noSelect ops = true) (hB : ∀ ch (a' : Act) w', a'.defers = a.defers → B ch w' → Q (.panic ch) a' w') (hS : S s w.drew)
    (h : LinP P .any ops Q S B sp vals ops.size s (Array.replicate ops.size false) a) : (Code.region id ops true).wp P Q a w :=
  wp_region_any hm (LinP.any (Region.noSelect_spec hs) hB _ _ _ _ _ h hS rfl)
theorem linp_step {n : Nat} {s : σ} {listed : Array Bool} {a : Act} {i : Nat} {o : Oper} {v : Value} {d : Option Tmp} (hi : ops[i]? = some o) (hd : o.dst = d) (hr : (Region.ready .any ops listed).contains i = true) (hf : Region.free .any ops listed i = true) (hsp : sp i = false) (hv : vals i = v)
    (hy : OrdAt P ops S o v a) (h : LinP P .any ops Q S B sp vals n s (listed.setIfInBounds i true) (a.put d v)) : LinP P .any ops Q S B sp vals (n + 1) s listed a :=
  LinP.ord i o hi (by simpa using hr) (Region.free_spec hi hf) hsp (hv ▸ hy) (by rw [hd, hv]; exact h)
theorem linp_turn {n : Nat} {s : σ} {listed : Array Bool} {a : Act} {i : Nat} {o : Oper} {d : Option Tmp} (N : Value → σ → Prop) (hi : ops[i]? = some o) (hd : o.dst = d) (hr : (Region.ready .any ops listed).contains i = true) (hf : Region.free .any ops listed i = true) (hsp : sp i = true)
    (hw : waitB ops sp listed i = true) (hN : ∃ u s', N u s') (hwa : Region.wanted o (yielded ops a.tmps) = true) (hy : ∀ w, S s w → GivesP P (execOp a.eval o) w (fun u w' => ∃ s', N u s' ∧ S s' w') B)
    (h : ∀ u s', N u s' → LinP P .any ops Q S B sp vals n s' (listed.setIfInBounds i true) (a.put d u)) : LinP P .any ops Q S B sp vals (n + 1) s listed a :=
  LinP.spec i o N hi (by simpa using hr) (Region.free_spec hi hf) hsp ⟨_, waits_direct hw⟩ hN ⟨hwa, hy⟩ (by rw [hd]; exact h)
theorem linp_turnD {n : Nat} {s : σ} {listed : Array Bool} {a : Act} {i : Nat} {o : Oper} {d : Option Tmp} (D : List Nat) (N : Value → σ → Prop) (hi : ops[i]? = some o) (hd : o.dst = d) (hr : (Region.ready .any ops listed).contains i = true) (hf : Region.free .any ops listed i = true) (hsp : sp i = true)
    (hw : waitD ops sp listed i D = true) (hN : ∃ u s', N u s') (hwa : Region.wanted o (yielded ops a.tmps) = true) (hy : ∀ w, S s w → GivesP P (execOp a.eval o) w (fun u w' => ∃ s', N u s' ∧ S s' w') B)
    (h : ∀ u s', N u s' → LinP P .any ops Q S B sp vals n s' (listed.setIfInBounds i true) (a.put d u)) : LinP P .any ops Q S B sp vals (n + 1) s listed a :=
  LinP.spec i o N hi (by simpa using hr) (Region.free_spec hi hf) hsp ⟨_, waitD_spec hw⟩ hN ⟨hwa, hy⟩ (by rw [hd]; exact h)
theorem lastB_spec {i : Nat} (h : lastB ops i = true) : LastOp .any ops i := by
  intro listed hr k hk hne
  obtain ⟨_, o, ho, hall⟩ := mem_ready.1 hr
  simp only [lastB, List.all_eq_true, List.mem_range] at h
  have h1 := h k hk
  simp only [ho, Bool.or_eq_true, beq_iff_eq, hne, false_or] at h1
  obtain ⟨e, he, hb⟩ := Array.any_eq_true'.1 h1
  simp only [Bool.and_eq_true, beq_iff_eq] at hb
  have := hall e he hb.1
  rw [hb.2] at this
  rcases Nat.lt_or_ge k listed.size with c | c
  · simp [c] at this ⊢; exact this
  · simp [Array.getElem?_eq_none c]
theorem linp_last {n : Nat} {s : σ} {listed : Array Bool} {a : Act} {i : Nat} {o : Oper} {d : Option Tmp} (hi : ops[i]? = some o) (hd : o.dst = d) (hr : (Region.ready .any ops listed).contains i = true) (hsp : sp i = true) (hl : lastB ops i = true)
    (hwa : Region.wanted o (yielded ops a.tmps) = true) (hy : ∀ w, S s w → GivesP P (execOp a.eval o) w (fun u w' => Q .normal (a.put d u) w') B) : LinP P .any ops Q S B sp vals (n + 1) s listed a :=
  LinP.last i o hi (by simpa using hr) hsp (lastB_spec hl) hwa (by rw [hd]; exact hy)
theorem linp_done {n : Nat} {s : σ} {listed : Array Bool} {a : Act} (hr : Region.ready .any ops listed = []) (hQ : ∀ w, S s w → Q .normal a w) : LinP P .any ops Q S B sp vals n s listed a := LinP.done hr hQ
end
end

section
open Go.RowKit Go.Maps
open Dk (zeros zeros_length)
open Ii (Ino)
def nv (s : Sto) (i : Nat) : List UInt8 := (sheld s i).getD (s.dk.last.getD i [])
structure Vs (s : Sto) (n I : Int) : Prop where
  snd : Sound s
  a : s.a = 1
  z : s.z = 40
  r : s.r = 37
  len : (s.dk.last.length : Int) = n
  pl : Pl.rightB n I = true
def okP (n i : Int) : Prop := 0 ≤ i ∧ i < n ∧ (i < 1 ∨ 41 ≤ i)
theorem Vs.bd {s : Sto} {n I : Int} (h : Vs s n I) : 1 ≤ I ∧ I ≤ 128 ∧ n ≤ 512 ∧ Pl.dataN I < n ∧ 44 ≤ Pl.dataN I ∧ Pl.dataN I ≤ 107 := by
  obtain ⟨h1, h2, h3, h4⟩ := Pl.right_yes h.pl
  have := Pl.data_bd h1 h2
  exact ⟨h1, h2, h3, h4, this.1, this.2⟩
theorem Vs.other {s : Sto} {n I i : Int} (h : Vs s n I) (hi : okP n i) : otherB s.dk.last.length s.a s.z i = true := by
  unfold okP at hi
  unfold otherB
  rw [decide_eq_true_iff, h.a, h.z, h.len]
  omega
theorem Vs.reach {s : Sto} {n I i : Int} (h : Vs s n I) (hi : okP n i) : sreachE s i = 0 := by
  unfold sreachE
  rw [if_neg (by rw [h.snd.up]; simp), if_pos (h.other hi)]
theorem sread_len {s : Sto} (ho : s.Ok) (hd : s.dk.Ok) (i : Int) : (sreadP s i).length = 64 := by
  unfold sreadP
  split
  · unfold sheld
    cases e1 : s.step.getD i.toNat none with
    | some p => exact (ho.spg _ _ e1).1
    | none =>
      cases e2 : s.group.getD i.toNat none with
      | some p => exact (ho.gpg _ _ e2).1
      | none => exact Dk.readP_len hd i
  · exact zeros_length
theorem Vs.read {s : Sto} {n I i : Int} (h : Vs s n I) (hi : okP n i) : sreadP s i = nv s i.toNat ∧ sreadE s i = 0 ∧ (nv s i.toNat).length = 64 := by
  have hr := h.reach hi
  obtain ⟨k, rfl⟩ := Int.eq_ofNat_of_zero_le hi.1
  have hk : k < s.dk.last.length := by have := h.len; have := hi.2.1; omega
  have e : sreadP s (k : Int) = nv s k := by
    unfold sreadP nv
    rw [if_pos hr, Int.toNat_natCast, read_clean h.snd.cl hk]
  rw [Int.toNat_natCast]
  refine ⟨e, ?_, ?_⟩
  · unfold sreadE
    rw [if_pos hr]
    split
    · rfl
    · exact Dk.reach_mk h.snd.cl.up (Dk.has_mk hk)
  · rw [← e]; exact sread_len h.snd.ok h.snd.cl.ok _
structure Goes (s s' : Sto) (L : List Nat) : Prop where
  same : s' = { s with step := s'.step }
  dom : Fs.Dom s.step s'.step L
theorem Goes.refl (s : Sto) : Goes s s [] := ⟨rfl, Fs.Dom.refl _⟩
theorem Goes.trans {s s' s'' : Sto} {L L' : List Nat} (h : Goes s s' L) (k : Goes s' s'' L') : Goes s s'' (L ++ L') :=
  ⟨by rw [k.same, h.same], h.dom.trans k.dom⟩
theorem Vs.goes {s s' : Sto} {n I : Int} {L : List Nat} (h : Vs s n I) (g : Goes s s' L) (hok : s'.Ok) : Vs s' n I := by
  rw [g.same] at hok ⊢
  exact ⟨h.snd.step hok, h.a, h.z, h.r, h.len, h.pl⟩
theorem nv_put {s : Sto} {i : Nat} {p : List UInt8} (hi : i < s.step.length) : nv { s with step := s.step.set i (some p) } = Fs.upd (nv s) i p := by
  funext j
  unfold nv Fs.upd sheld
  simp only
  rw [pgs_set_at _ _ _ _ hi]
  by_cases e : i = j
  · subst e; simp
  · rw [if_neg e, if_neg (fun q => e q.symm)]
theorem Vs.put {s : Sto} {n I i : Int} {p : List UInt8} (h : Vs s n I) (hi : okP n i) (hp : p.length = 64) :
    (sputE s i = 0 ∧ nv (sput s i p) = Fs.upd (nv s) i.toNat p ∧ Goes s (sput s i p) [i.toNat] ∧ Vs (sput s i p) n I) ∨
    (sputE s i = 28 ∧ sput s i p = s ∧ s.r < Fs.cntU s.step [i.toNat]) := by
  have hr := h.reach hi
  obtain ⟨k, rfl⟩ := Int.eq_ofNat_of_zero_le hi.1
  have hk : k < s.step.length := by rw [h.snd.ok.slen]; have := h.len; have := hi.2.1; omega
  unfold sputE sput
  unfold sputE
  rw [if_pos hr, Int.toNat_natCast]
  by_cases c : (s.step.getD k none).isSome = false ∧ s.r ≤ cntO s.step
  · right
    rw [if_pos c, if_neg (by decide)]
    refine ⟨rfl, rfl, ?_⟩
    rw [Fs.cntU_one _ _ hk, if_neg (by rw [c.1]; decide)]
    omega
  · left
    rw [if_neg c, if_pos rfl]
    have hg : Goes s { s with step := s.step.set k (some p) } [k] := ⟨rfl, Fs.Dom.set _ _ _ hk⟩
    exact ⟨rfl, nv_put hk, hg, h.goes hg (sput_ok h.snd.ok hp (h.other hi) c)⟩
def baseL (st : Nat) (n I : Int) : List Value := [.pointer (some ⟨st, 0, none⟩), .int .i64 n, .int .i64 I]
def baseV (st : Nat) (n I : Int) : Value := .agg #[.pointer (some ⟨st, 0, none⟩), .int .i64 n, .int .i64 I]
def stepL (st : Nat) (n I : Int) (doing : Bool) (failed : Int) : List Value := [.pointer (some ⟨st, 0, none⟩), .int .i64 n, .int .i64 I, .bool doing, .int .i64 failed]
def volL (st : Nat) (n I : Int) (steps : Int) : List Value := [.pointer (some ⟨st, 0, none⟩), .int .i64 n, .int .i64 I, .int .i64 steps]
structure Ctx (w : World) (B : Nat) (b : Blk) (s : Sto) (n I : Int) : Prop where
  step : RowAt w B (stepL b.s n I true 0)
  store : StoreAt w b s
  vs : Vs s n I
  nb : B ∉ b.all
theorem Ctx.below {w w' : World} {B : Nat} {b : Blk} {s : Sto} {n I : Int} (h : Ctx w B b s n I) (hb : Below w.heap.size w w') : Ctx w' B b s n I :=
  ⟨h.step.step hb, h.store.below hb, h.vs, h.nb⟩
theorem Ctx.only {w w' : World} {B : Nat} {b : Blk} {s : Sto} {n I : Int} {L : List Nat} (h : Ctx w B b s n I) (ho : Only L w w') (hB : B ∉ L) (hL : ∀ k ∈ b.all, k ∉ L) : Ctx w' B b s n I :=
  ⟨h.step.block (ho.block B h.step.lt hB), h.store.only ho hL, h.vs, h.nb⟩
theorem Ctx.lt {w : World} {B : Nat} {b : Blk} {s : Sto} {n I : Int} (h : Ctx w B b s n I) : B < w.heap.size := h.step.lt
structure Broke (w : World) (B : Nat) (b : Blk) (s : Sto) (n I er : Int) : Prop where
  step : RowAt w B (stepL b.s n I true er)
  store : ∃ s', StoreAt w b s' ∧ s' = { s with step := s'.step }
def failV (B : Nat) : Value := .iface 122 (.agg #[.pointer (some ⟨B, 0, none⟩)])
def failE (B : Nat) : PanicEntry := { v := failV B, recovered := false }
def Fails {α : Type} (s : Sto) (m : Fs.M α) (er : Int) : Prop := (∃ V L, m (nv s) = (.error er, V, L)) ∨ (er = 28 ∧ s.r < Fs.cntU s.step (m (nv s)).2.2)
def Ends {α : Type} (B : Nat) (b : Blk) (n I : Int) (Ls : List Nat) (w0 : World) (s : Sto) (m : Fs.M α) (K : α → Ending → World → Prop) (e : Ending) (w' : World) : Prop :=
  (∃ a s' L, m (nv s) = (.ok a, nv s', L) ∧ Goes s s' L ∧ Ctx w' B b s' n I ∧ K a e w' ∧ Only (b.t :: Ls) w0 w') ∨
  (∃ er, Fails s m er ∧ er ≠ 0 ∧ Broke w' B b s n I er ∧ e = .panicked [failE B] ∧ Only (B :: b.t :: Ls) w0 w')
theorem Fails.bind {α β : Type} {s : Sto} {m : Fs.M α} {f : α → Fs.M β} {er : Int} (h : Fails s m er) : Fails s (Fs.andThen m f) er := by
  rcases h with ⟨V, L, h⟩ | ⟨h1, h2⟩
  · exact Or.inl ⟨V, L, Fs.andThen_err h⟩
  · refine Or.inr ⟨h1, ?_⟩
    obtain ⟨L, e⟩ := Fs.andThen_log m f (nv s)
    rw [e]
    exact Nat.lt_of_lt_of_le h2 (Fs.cntU_mono _ _ _)
theorem Fails.next {α β : Type} {s s1 : Sto} {m : Fs.M α} {f : α → Fs.M β} {a : α} {L : List Nat} {er : Int} (E : m (nv s) = (.ok a, nv s1, L)) (G : Goes s s1 L) (h : Fails s1 (f a) er) : Fails s (Fs.andThen m f) er := by
  rcases h with ⟨V, L1, h⟩ | ⟨h1, h2⟩
  · exact Or.inl ⟨V, L ++ L1, by rw [Fs.andThen_ok E, h]⟩
  · refine Or.inr ⟨h1, ?_⟩
    rw [Fs.andThen_ok E]
    simp only
    rw [G.dom.cntU] at h2
    have : s1.r = s.r := by rw [G.same]
    rwa [this] at h2
theorem Broke.goes {w : World} {B : Nat} {b : Blk} {s s1 : Sto} {n I er : Int} {L : List Nat} (h : Broke w B b s1 n I er) (G : Goes s s1 L) : Broke w B b s n I er :=
  ⟨h.step, by
    obtain ⟨s', h1, h2⟩ := h.store
    exact ⟨s', h1, by rw [h2, G.same]⟩⟩
theorem Ends.next {α β : Type} {B : Nat} {b : Blk} {n I : Int} {Ls : List Nat} {w0 : World} {s s1 : Sto} {m : Fs.M α} {f : α → Fs.M β} {K : β → Ending → World → Prop} {a : α} {L : List Nat} (E : m (nv s) = (.ok a, nv s1, L)) (G : Goes s s1 L) {e : Ending} {w' : World}
    (h : Ends B b n I Ls w0 s1 (f a) K e w') : Ends B b n I Ls w0 s (Fs.andThen m f) K e w' := by
  rcases h with ⟨c, s', L', E', G', C, hK, O⟩ | ⟨er, F, h0, R, he, O⟩
  · exact Or.inl ⟨c, s', L ++ L', by rw [Fs.andThen_ok E, E'], G.trans G', C, hK, O⟩
  · exact Or.inr ⟨er, F.next E G, h0, R.goes G, he, O⟩
theorem Ends.broke {α β : Type} {B : Nat} {b : Blk} {n I : Int} {Ls : List Nat} {w0 w' : World} {s : Sto} {m : Fs.M α} {f : α → Fs.M β} {K : β → Ending → World → Prop} {er : Int} (F : Fails s m er) (h0 : er ≠ 0) (R : Broke w' B b s n I er) (O : Only (B :: b.t :: Ls) w0 w') :
    Ends B b n I Ls w0 s (Fs.andThen m f) K (.panicked [failE B]) w' := Or.inr ⟨er, F.bind, h0, R, rfl, O⟩
theorem Ends.done {α : Type} {B : Nat} {b : Blk} {n I : Int} {Ls : List Nat} {w0 w' : World} {s : Sto} {K : α → Ending → World → Prop} {a : α} {e : Ending} (C : Ctx w' B b s n I) (hK : K a e w') (O : Only (b.t :: Ls) w0 w') : Ends B b n I Ls w0 s (Fs.ret a) K e w' :=
  Or.inl ⟨a, s, [], rfl, Goes.refl s, C, hK, O⟩
theorem Only.via {L L' : List Nat} {w0 w w' : World} (h : Only L w0 w) (k : Only L' w w') (hL : ∀ i ∈ L', i ∈ L ∨ w0.heap.size ≤ i) : Only L w0 w' where
  os := k.os.trans h.os
  tape := k.tape.trans h.tape
  output := k.output.trans h.output
  size := Nat.le_trans h.size k.size
  block := fun i hi hn => (k.block i (Nat.lt_of_lt_of_le hi h.size) (fun q => by
    rcases hL i q with x | x
    · exact hn x
    · omega)).trans (h.block i hi hn)
end

section
open Go.RowKit Go.Maps
open Dk (zeros zeros_length)
open Ii (Ino)
theorem calls_of {P : Program} {f : FuncId} {args : Array Value} {w : World} {Q : Ending → World → Prop} (h : ∀ R : Ending → World → Prop, Hid (∀ e w', Q e w' → R e w') → Calls P f args w R) : Calls P f args w Q :=
  h Q (Lib.hid fun _ _ x => x)
theorem goesOn_any {w : World} {B : Nat} {b : Blk} {s : Sto} {n I : Int} (h : Ctx w B b s n I) : Calls Tryz.prog 35 #[.pointer (some ⟨B, 0, none⟩)] w fun e w' => e = .returned (.bool true) ∧ w = w' := by
  have c3 : w.cell? ⟨B, 3, none⟩ = some (.bool true) := h.step.cell 3 _ rfl
  have c4 : w.cell? ⟨B, 4, none⟩ = some (.int .i64 0) := h.step.cell 4 _ rfl
  clear h
  go_enter Tryz.func35, Tryz.ntmps35
  go_wp2
  go_ret
  exact ⟨rfl, rfl⟩
theorem Ctx.fail {w : World} {B : Nat} {b : Blk} {s : Sto} {n I : Int} (h : Ctx w B b s n I) (er : Int) : Broke (w.setCell ⟨B, 4, none⟩ (.int .i64 er)) B b s n I er ∧ Only [B] w (w.setCell ⟨B, 4, none⟩ (.int .i64 er)) := by
  have hs := h.step.range
  refine ⟨⟨⟨fun j v hv => ?_, fun j hj => ?_⟩, s, h.store.only ((Only.refl [B] w).setCell (by simp) _) (fun k hk => by simp; intro q; subst q; exact h.nb hk), rfl⟩, (Only.refl [B] w).setCell (by simp) _⟩
  · rw [Nat.zero_add]
    have h4 := h.step.cell 4 (.int .i64 0) rfl
    by_cases e : j = 4
    · subst e
      have hv' : v = .int .i64 er := by simpa [stepL] using hv.symm
      rw [hv']
      exact World.cell?_setCell_same' _ _ _ (by rw [h4]; rfl)
    · rw [World.cell?_setCell_other _ _ _ _ (fun q => e (by injection q with _ q; exact q.symm))]
      refine h.step.cell j v ?_
      rw [← hv]
      unfold stepL
      match j with
      | 0 => rfl | 1 => rfl | 2 => rfl | 3 => rfl | 4 => exact absurd rfl e | k + 5 => rfl
  · have hf := h.step.free j hj
    refine ⟨?_, by rw [World.frozen?_setCell]; exact hf.2⟩
    rw [Nat.zero_add] at hf ⊢
    by_cases e : j = 4
    · subst e
      rw [World.cell?_setCell_same' _ _ _ hf.1]; rfl
    · rw [World.cell?_setCell_other _ _ _ _ (fun q => e (by injection q with _ q; exact q.symm))]
      exact hf.1
theorem fail_any {w : World} {B : Nat} {b : Blk} {s : Sto} {n I : Int} (h : Ctx w B b s n I) (er : Int) (h0 : er ≠ 0) : Calls Tryz.prog 46 #[.pointer (some ⟨B, 0, none⟩), .int .i64 er] w fun e w' => e = .panicked [failE B] ∧ Broke w' B b s n I er ∧ Only [B] w w' := by
  have HF := Lib.hid (h.fail er)
  have c4 : w.cell? ⟨B, 4, none⟩ = some (.int .i64 0) := h.step.cell 4 _ rfl
  have f4 : w.frozen? ⟨B, 4, none⟩ = false := by
    have := (h.step.free 4 (show 4 < 5 by decide)).2
    rwa [Nat.zero_add] at this
  have HG := Lib.hid (goesOn_any h)
  have he : (er == 0) = false := by simpa using h0
  clear h h0
  go_enter Tryz.func46, Tryz.ntmps46
  go_wp2_with (go_at_call 35; (with_reducible refine HG.out.mono ?_); rintro e w' ⟨rfl, rfl⟩)
  exact ⟨rfl, rfl, HF.out⟩
theorem must_ok {w : World} (B : Nat) : Calls Tryz.prog 81 #[.pointer (some ⟨B, 0, none⟩), .int .i64 0] w fun e w' => e = .returned (.tuple #[]) ∧ w = w' := by
  go_enter Tryz.func81, Tryz.ntmps81
  go_wp2
  go_end0
  exact ⟨rfl, rfl⟩
theorem must_no {w : World} {B : Nat} {b : Blk} {s : Sto} {n I : Int} (h : Ctx w B b s n I) (er : Int) (h0 : er ≠ 0) : Calls Tryz.prog 81 #[.pointer (some ⟨B, 0, none⟩), .int .i64 er] w fun e w' => e = .panicked [failE B] ∧ Broke w' B b s n I er ∧ Only [B] w w' := by
  have HF := Lib.hid (fail_any h er h0)
  have he : (er != 0) = true := by simpa using h0
  clear h h0
  go_enter Tryz.func81, Tryz.ntmps81
  go_wp2_with (go_at_call 46; (with_reducible refine HF.out.mono ?_); rintro e w' ⟨rfl, hR⟩)
  exact ⟨rfl, rfl, hR⟩
end

section
open Dk (zeros zeros_length)
open Go.RowKit
open Ii (Ino)
theorem isThere_yes (h : Int) (w : World) (h0 : 0 ≤ h) (h1 : h < 2) : Calls Tryz.prog 127 #[.int .i64 h] w fun e w' => e = .returned (.bool true) ∧ w = w' := by
  have g0 : decide (0 ≤ h) = true := decide_eq_true h0
  have g1 : decide (h < 2) = true := decide_eq_true h1
  go_enter Tryz.func127, Tryz.ntmps127
  go_wp2
  go_ret
  exact ⟨rfl, rfl⟩
theorem upTo_any (m n : Int) (w : World) : Calls Tryz.prog 158 #[.int .i64 m, .int .i64 n] w fun e w' => e = .returned (.bool (decide (0 ≤ n ∧ n ≤ m))) ∧ w = w' := by
  by_cases c : 0 ≤ n
  · have g0 : decide (0 ≤ n) = true := decide_eq_true c
    have HE : Hid (decide (0 ≤ n ∧ n ≤ m) = decide (n ≤ m)) := Lib.hid (by rw [decide_eq_decide]; exact ⟨fun h => h.2, fun h => ⟨c, h⟩⟩)
    rw [HE.out]
    clear c
    go_enter Tryz.func158, Tryz.ntmps158
    go_wp2
    go_ret
    exact ⟨rfl, rfl⟩
  · have g0 : decide (0 ≤ n) = false := decide_eq_false c
    have HE : Hid (decide (0 ≤ n ∧ n ≤ m) = false) := Lib.hid (decide_eq_false fun h => c h.1)
    rw [HE.out]
    clear c
    go_enter Tryz.func158, Tryz.ntmps158
    go_wp2
    go_ret
    exact ⟨rfl, rfl⟩
theorem bit_any (p i n : Int) (w : World) (h : Pl.rightB p i = true) :
    Calls Tryz.prog 155 #[planV p i, .int .i64 n] w fun e w' => e = .returned (.int .i64 (if Pl.dataN i ≤ n ∧ n < p then n - Pl.dataN i else -1)) ∧ Below w.heap.size w w' := by
  by_cases c : Pl.dataN i ≤ n ∧ n < p
  · rw [if_pos c]; exact bit_yes p i n w h c.1 c.2
  · rw [if_neg c]; exact bit_no p i n w h (by omega)
theorem numberRight_any (p i n : Int) (w : World) (h : Pl.rightB p i = true) :
    Calls Tryz.prog 159 #[.int .i64 n, planV p i] w fun e w' => e = .returned (.bool (Ii.numB p i n)) ∧ Below w.heap.size w w' := by
  have HB := Lib.hid (fun w => bit_any p i n w h)
  clear h
  by_cases c : n = 0
  · have HE : Hid (Ii.numB p i n = true) := Lib.hid (decide_eq_true (Or.inl c))
    have g0 : (n == 0) = true := by simpa using c
    rw [HE.out]
    clear c HB
    unfold planV
    go_enter Tryz.func159, Tryz.ntmps159
    go_wp2
    go_ret
    exact ⟨rfl, (Below.refl _ _).alloc (Nat.le_refl _) _⟩
  · have g0 : (n == 0) = false := by simpa using c
    by_cases d : Pl.dataN i ≤ n ∧ n < p
    · have HE : Hid (Ii.numB p i n = true) := Lib.hid (decide_eq_true (Or.inr d))
      rw [HE.out]
      rw [if_pos d] at HB
      have d0 : 0 ≤ n - Pl.dataN i := by omega
      clear c d
      generalize n - Pl.dataN i = r at HB d0
      unfold planV at HB ⊢
      go_enter Tryz.func159, Tryz.ntmps159
      go_wp2_with (go_at_call 155; refine (HB.out _).mono ?_; rintro e w' ⟨rfl, hb⟩)
      go_ret
      exact ⟨rfl, ((Below.refl _ _).alloc (Nat.le_refl _) _).trans (hb.mono (by simp))⟩
    · have HE : Hid (Ii.numB p i n = false) := Lib.hid (decide_eq_false fun h => by rcases h with h | h; exact c h; exact d h)
      rw [HE.out]
      rw [if_neg d] at HB
      clear c d
      unfold planV at HB ⊢
      go_enter Tryz.func159, Tryz.ntmps159
      go_wp2_with (go_at_call 155; refine (HB.out _).mono ?_; rintro e w' ⟨rfl, hb⟩)
      go_ret
      exact ⟨rfl, ((Below.refl _ _).alloc (Nat.le_refl _) _).trans (hb.mono (by simp))⟩
end

section
open Dk (zeros zeros_length)
open Go.RowKit
def strOf (l : List UInt8) : ByteArray := ⟨l.toArray⟩
theorem strOf_size (l : List UInt8) : (strOf l).size = l.length := by simp [strOf, ByteArray.size]
theorem run_text {w : World} {b : Nat} {p : List UInt8} (h : PageAt w b p) (a n : Nat) (hn : a + n ≤ 64) :
    ∃ S, (Instr.sliceAt 97 (.pointer (some ⟨b, 0, none⟩)) (some (.int .i64 (a : Int))) (some (.int .i64 ((a : Int) + (n : Int)))) none).run Tryz.prog w = .ok S w ∧
      (convert 158 9 S).run Tryz.prog w = .ok (.string (strOf ((p.drop a).take n))) w := by
  have hl : ((p.drop a).take n).length = n := by have := h.len; simp; omega
  have hs := run_sliceAt_array_lh (P := Tryz.prog) w 97 ⟨b, 0, none⟩ underP .i64 .i64 (a : Int) ((a : Int) + (n : Int)) (by omega) (by omega) (by rw [arrP]; omega)
  rw [elemP, run_size8, arrP, Result.andThen_ok] at hs
  unfold slicedAt at hs
  have e1 : (a : Int).toNat = a := Int.toNat_natCast a
  have e2 : ((a : Int) + (n : Int)).toNat - a = n := by omega
  rw [e1, e2] at hs
  refine ⟨_, hs, ?_⟩
  have := run_convert_bytes_back (P := Tryz.prog) w 158 9 5 (if 64 = a then ⟨b, 0, none⟩ else (⟨b, 0, none⟩ : Addr).add (a * 1)) (64 - a) ((p.drop a).take n) Tryz.underlying158 Tryz.underlying5 Tryz.underlying9 (fun j hj => by
    rw [if_neg (by omega), Addr.add_mid, Addr.add_mid, Nat.mul_one, Nat.zero_add, h.cell (a + j) (by omega), List.getElem_take, List.getElem_drop, List.getD_eq_getElem?_getD, List.getElem?_eq_getElem (by have := h.len; omega)]
    rfl)
  rw [hl] at this
  exact this
theorem text_yes (p : List UInt8) (a n : Nat) (w : World) (hp : p.length = 64) (h : a + n ≤ 64) :
    Calls Tryz.prog 162 #[pageV p, .int .i64 (a : Int), .int .i64 (n : Int)] w fun e w' => e = .returned (.string (strOf ((p.drop a).take n))) ∧ Below w.heap.size w w' := by
  obtain ⟨S, hS, hc⟩ := run_text (pageAt_new w p 97 hp) a n h
  have HN : Hid (Pg.insB (a : Int) (n : Int) = true) := Lib.hid (Pg.ins_mk (by omega) (by omega) (by omega))
  generalize strOf ((p.drop a).take n) = s at hc ⊢
  clear hp
  unfold pageV
  go_enter Tryz.func162, Tryz.ntmps162
  go_wp2_with (go_at_call 115; refine (inside_yes _ _ _ (by omega) (by omega) HN.out).mono ?_; rintro e w' ⟨rfl, rfl⟩)
  go_ret
  exact ⟨rfl, (Below.refl _ _).alloc (Nat.le_refl _) _⟩
theorem text_no (p : List UInt8) (a n : Int) (w : World) (h1 : -9223372036854775808 ≤ n) (h2 : n ≤ 9223372036854775807) (h : Pg.insB a n = false) :
    Calls Tryz.prog 162 #[pageV p, .int .i64 a, .int .i64 n] w fun e w' => e = .returned (.string (strOf [])) ∧ Below w.heap.size w w' := by
  have HN := Lib.hid h; clear h
  unfold pageV
  go_enter Tryz.func162, Tryz.ntmps162
  go_wp2_with (go_at_call 115; refine (inside_no _ _ _ h1 h2 HN.out).mono ?_; rintro e w' ⟨rfl, rfl⟩)
  go_ret
  exact ⟨rfl, (Below.refl _ _).alloc (Nat.le_refl _) _⟩
theorem text_any (p : List UInt8) (a n : Int) (w : World) (hp : p.length = 64) (h1 : -9223372036854775808 ≤ n) (h2 : n ≤ 9223372036854775807) :
    Calls Tryz.prog 162 #[pageV p, .int .i64 a, .int .i64 n] w fun e w' => e = .returned (.string (strOf (Pg.textN p a n))) ∧ Below w.heap.size w w' := by
  by_cases h : Pg.insB a n = true
  · obtain ⟨c1, c2, c3⟩ := Pg.ins_yes h
    obtain ⟨A, rfl⟩ := Int.eq_ofNat_of_zero_le c1
    obtain ⟨N, rfl⟩ := Int.eq_ofNat_of_zero_le c2
    have := text_yes p A N w hp (by omega)
    unfold Pg.textN
    rw [if_pos h]
    exact this
  · have := text_no p a n w h1 h2 (by simpa using h)
    unfold Pg.textN
    rw [if_neg h]
    exact this
theorem PageAt.over {w : World} {b : Nat} {p : List UInt8} (h : PageAt w b p) (a : Nat) (s : List UInt8) (hs : a + s.length ≤ 64) : PageAt (w.setCells b a (byteVals s)) b (Pg.over p a s) where
  len := by rw [Pg.over_length _ _ _ (by rw [h.len]; exact hs), h.len]
  range := fun j v hv => by
    rw [Nat.zero_add]
    have hj : j < 64 := by
      have := (List.getElem?_eq_some_iff.1 hv).1
      rw [byteVals_length, Pg.over_length _ _ _ (by rw [h.len]; exact hs), h.len] at this
      exact this
    have hv' : (Pg.over p a s)[j]?.map (fun c => Value.int .u8 (c.toNat : Int)) = Option.some v := by rw [← hv]; unfold byteVals; rw [List.getElem?_map]
    rw [Pg.over_at _ _ _ _ (by rw [h.len]; exact hs)] at hv'
    by_cases h1 : a ≤ j ∧ j < a + s.length
    · rw [if_neg (by omega), if_pos h1.2] at hv'
      have hin := World.cell?_setCells_in b (byteVals s) a w (fun i hi => h.isSome (a + i) (by rw [byteVals_length] at hi; omega)) (j - a) (by rw [byteVals_length]; omega)
      rw [show a + (j - a) = j by omega] at hin
      rw [hin, ← hv', ← List.getElem?_eq_getElem]
      unfold byteVals
      rw [List.getElem?_map]
    · rw [World.cell?_setCells_out b (byteVals s) a w ⟨b, j, none⟩ (fun _ _ => by rw [byteVals_length]; show j < a ∨ a + s.length ≤ j; omega)]
      have hpj : p[j]?.map (fun c => Value.int .u8 (c.toNat : Int)) = Option.some v := by
        by_cases h2 : j < a
        · rw [if_pos h2] at hv'; exact hv'
        · rw [if_neg h2, if_neg (by omega)] at hv'; exact hv'
      have := h.range j v (by unfold byteVals; rw [List.getElem?_map]; exact hpj)
      rwa [Nat.zero_add] at this
  free := World.there_setCells h.free _ _ _
theorem run_copy_text {w : World} {b : Nat} {p : List UInt8} (h : PageAt w b p) (a : Nat) (s : ByteArray) (hs : a + s.size ≤ 64) :
    ∃ S, (Instr.sliceAt 97 (.pointer (some ⟨b, 0, none⟩)) (some (.int .i64 (a : Int))) none none).run Tryz.prog w = .ok S w ∧
      (Builtin.copy_ #[158, 9] 3 #[S, .string s]).run Tryz.prog w = .ok (goInt s.size) (w.setCells b a (byteVals s.data.toList)) := by
  have hsl := run_sliceAt_array_l (P := Tryz.prog) w 97 ⟨b, 0, none⟩ underP .i64 (a : Int) (by omega) (by rw [arrP]; omega)
  rw [elemP, run_size8, arrP, Result.andThen_ok] at hsl
  unfold slicedAt at hsl
  have e1 : (a : Int).toNat = a := Int.toNat_natCast a
  rw [e1] at hsl
  refine ⟨_, hsl, ?_⟩
  have hmin : Nat.min s.size (64 - a) = s.size := Nat.min_eq_left (by omega)
  have hcells : (s.extract 0 s.size).data.map (fun b => Value.int .u8 (b.toNat : Int)) = (byteVals s.data.toList).toArray := by
    have : s.extract 0 s.size = s := by apply ByteArray.ext; simp
    rw [this]; unfold byteVals; rw [← Array.toList_map, Array.toArray_toList]
  have hst : (storeCells (if 64 = a then ⟨b, 0, none⟩ else (⟨b, 0, none⟩ : Addr).add (a * 1)) (byteVals s.data.toList)).run Tryz.prog w = .ok () (w.setCells b a (byteVals s.data.toList)) := by
    by_cases h64 : 64 = a
    · have hz : s.data.toList = [] := List.eq_nil_of_length_eq_zero (by have : s.size = s.data.toList.length := by simp
                                                                        omega)
      rw [hz]; rfl
    · rw [if_neg h64, Addr.add_mid, Nat.mul_one, Nat.zero_add]
      have hlen : (byteVals s.data.toList).length = s.size := by rw [byteVals_length]; simp
      exact run_storeCells_cells (P := Tryz.prog) b a (byteVals s.data.toList) 0 w (fun j hj => h.isSome (a + j) (by omega)) (fun j hj => h.frozen (a + j) (by omega)) (byteVals_one _)
  obtain ⟨i8, hi8⟩ := info8
  have hsz := run_size8 w
  unfold Builtin.copy_
  simp only [List.getElem?_toArray, List.getElem?_cons_zero, List.getElem?_cons_succ, Sem.run_bind, run_underlying Tryz.underlying158, Result.andThen_ok, Builtin.lenOf, Sem.run_pure, hmin, hsz, Builtin.firstCells, hcells, hst]
theorem setText_yes (p : List UInt8) (a : Nat) (s : ByteArray) (w : World) (hp : p.length = 64) (h : a + s.size ≤ 64) :
    Calls Tryz.prog 67 #[pageV p, .int .i64 (a : Int), .string s] w fun e w' => e = .returned (pageV (Pg.over p a s.data.toList)) ∧ Below w.heap.size w w' := by
  have hs := set_start w p hp
  rw [zeroCells_def] at hs
  have HS := Lib.hid hs
  obtain ⟨S, hS, hc⟩ := run_copy_text hs.1 a s h
  have HN : Hid (Pg.insB (a : Int) (s.size : Int) = true) := Lib.hid (Pg.ins_mk (by omega) (by omega) (by omega))
  have hlen : s.data.toList.length = s.size := by simp
  have HO := Lib.hid (HS.out.1.over a s.data.toList (by omega))
  have HZ := Lib.hid (HS.out.2.1.put_other w.heap.size a (byteVals s.data.toList) (by omega))
  have HB := Lib.hid (below_setCells w.heap.size (Nat.le_refl _) (byteVals s.data.toList) a _ HS.out.2.2)
  clear hp hlen hs HS
  unfold pageV
  go_enter Tryz.func67, Tryz.ntmps67
  go_wp2_with (first
    | (go_at_call 115; refine (inside_yes _ _ _ (by omega) (by omega) HN.out).mono ?_; rintro e w' ⟨rfl, rfl⟩)
    | (with_reducible refine wpList_load_page HO.out rfl (.tmp 3) rfl rfl ?_)
    | (with_reducible refine wpList_store_page HZ.out HO.out.len rfl (.tmp 6) (.tmp 15) rfl rfl rfl ?_))
  exact bodyPost_ret (results_page _ 6 rfl _ (HZ.out.put _ HO.out.len) rfl) rfl ⟨rfl, below_setCells _ (by omega) _ _ _ HB.out⟩
theorem setText_no (p : List UInt8) (a : Int) (s : ByteArray) (w : World) (hp : p.length = 64) (hm : s.size ≤ maxLen) (h : Pg.insB a s.size = false) :
    Calls Tryz.prog 67 #[pageV p, .int .i64 a, .string s] w fun e w' => e = .returned (pageV p) ∧ Below w.heap.size w w' := by
  unfold maxLen at hm
  have hs := set_start w p hp
  rw [zeroCells_def] at hs
  have HS := Lib.hid hs
  have HN := Lib.hid h
  have HL := Lib.hid hp
  clear hp hs h
  unfold pageV
  go_enter Tryz.func67, Tryz.ntmps67
  go_wp2_with (first
    | (go_at_call 115; refine (inside_no _ _ _ (by omega) (by omega) HN.out).mono ?_; rintro e w' ⟨rfl, rfl⟩)
    | (with_reducible refine wpList_load_page HS.out.1 rfl (.tmp 3) rfl rfl ?_)
    | (with_reducible refine wpList_store_page HS.out.2.1 HL.out rfl (.tmp 6) (.tmp 15) rfl rfl rfl ?_))
  exact bodyPost_ret (results_page _ 6 rfl _ (HS.out.2.1.put _ HL.out) rfl) rfl ⟨rfl, below_setCells _ (by omega) _ _ _ HS.out.2.2⟩
theorem setText_any (p : List UInt8) (a : Int) (s : ByteArray) (w : World) (hp : p.length = 64) (hm : s.size ≤ maxLen) :
    Calls Tryz.prog 67 #[pageV p, .int .i64 a, .string s] w fun e w' => e = .returned (pageV (Pg.setTextN p a s.data.toList)) ∧ Below w.heap.size w w' := by
  have hlen : (s.data.toList.length : Int) = (s.size : Int) := by simp
  by_cases h : Pg.insB a s.size = true
  · obtain ⟨c1, c2, c3⟩ := Pg.ins_yes h
    obtain ⟨A, rfl⟩ := Int.eq_ofNat_of_zero_le c1
    have := setText_yes p A s w hp (by omega)
    unfold Pg.setTextN
    rw [hlen, if_pos h]
    exact this
  · have := setText_no p a s w hp hm (by simpa using h)
    unfold Pg.setTextN
    rw [hlen, if_neg h]
    exact this
end

section
open Dk (zeros zeros_length)
open Go.RowKit
open Ii (Ino)
theorem zero8 (w : World) : (zeroValue 5).run Tryz.prog w = .ok (.int .u8 0) w := by kernel_rfl
theorem clear_half {w0 W : World} {q z : List UInt8} {x : Ino} (k : PutS w0 q z x W) (A : Nat) (hA : A + 32 ≤ 64) (ty : TypeId) (c : Nat) :
    (Builtin.clear_ #[158] ty #[.slice (some ⟨w0.heap.size, A, none⟩) 32 c]).run Tryz.prog W = .ok (.tuple #[]) (W.setCells w0.heap.size A (byteVals Ii.z32)) :=
  Lib.run_clear_slice W _ _ ty (.int .u8 0) Tryz.underlying158 zero8 rfl rfl w0.heap.size A 32 c (by omega) (fun j hj => k.page.isSome (A + j) (by omega)) (fun j hj => k.page.frozen (A + j) (by omega))
theorem PutS.cleared {w0 W : World} {q z : List UInt8} {x : Ino} (k : PutS w0 q z x W) (A : Nat) (hA : A + 32 ≤ 64) : PutS w0 (Pg.over q A Ii.z32) z x (W.setCells w0.heap.size A (byteVals Ii.z32)) :=
  ⟨k.page.over A Ii.z32 (by rw [Ii.z32_length]; exact hA), k.ino.put_other _ _ _ (by omega), k.out.put_other _ _ _ (by omega), below_setCells _ (Nat.le_refl _) _ _ _ k.below⟩
theorem run_clear_op {w0 W : World} {q z : List UInt8} {x : Ino} {ρ : Operand → Value} {op : Oper} (k : PutS w0 q z x W) (A : Nat) (hA : A + 32 ≤ 64) (n : Nat) (v : Operand) (c : Call) (ho : op.op = .call c) (hc : c.callee = .builtin .clear) (ha : c.args = #[v]) (ht : c.argTypes = #[158])
    (hv : ρ v = .slice (some ⟨w0.heap.size, A, none⟩) 32 n) : (execOp ρ op).run Tryz.prog W = .ok (.value (.tuple #[])) (W.setCells w0.heap.size A (byteVals Ii.z32)) := by
  have h := fun ty => clear_half k A hA ty n
  unfold execOp
  simp [ho, resolve, hc, ha, ht, hv, Go.invoke, Go.builtin, h]
theorem wpList_clear_put {ops : Array Oper} {rest : List Oper} {op : Oper} {a : Act} {Q : Exit → Act → World → Prop} {w0 W : World} {q z : List UInt8} {x : Ino} (k : PutS w0 q z x W) (A : Nat) (hA : A + 32 ≤ 64) (n : Nat) (hgd : op.guard = none) (v : Operand) (c : Call) (ho : op.op = .call c) (hc : c.callee = .builtin .clear) (ha : c.args = #[v]) (ht : c.argTypes = #[158])
    (hv : a.eval v = .slice (some ⟨w0.heap.size, A, none⟩) 32 n) (h : ∀ W2, PutS w0 (Pg.over q A Ii.z32) z x W2 → wpList Tryz.prog ops Q rest (a.put op.dst (.tuple #[])) W2) : wpList Tryz.prog ops Q (op :: rest) a W :=
  wpList_plain hgd fun _ hK => by
    unfold Oper.wp
    rw [run_clear_op k A hA n v c ho hc ha ht hv]
    exact hK _ _ (h _ (k.cleared A hA))
theorem RowAt.four {w : World} {b : Nat} {x : Ino} (k : RowAt w b (inoL x)) : w.rangeAt b 5 [.int .i64 x.a, .int .i64 x.b, .int .i64 x.c, .int .i64 x.d] := by
  intro j v hv
  have h : (inoL x)[5 + j]? = some v := by
    match j, hv with
    | 0, hv => exact hv
    | 1, hv => exact hv
    | 2, hv => exact hv
    | 3, hv => exact hv
    | n + 4, hv => simp at hv
  have := k.range (5 + j) v h
  rwa [Nat.zero_add] at this
theorem wpList_load_four {ops : Array Oper} {rest : List Oper} {op : Oper} {a : Act} {Q : Exit → Act → World → Prop} {w : World} {b : Nat} {x : Ino} (k : RowAt w b (inoL x)) (hgd : op.guard = none) (u : Operand) (ho : op.op = .load 45 u)
    (hx : a.eval u = .pointer (some ⟨b, 5, none⟩)) (hn : wpList Tryz.prog ops Q rest (a.put op.dst (.agg #[.int .i64 x.a, .int .i64 x.b, .int .i64 x.c, .int .i64 x.d])) w) : wpList Tryz.prog ops Q (op :: rest) a w :=
  wpList_load_mid hgd 45 u ho b 5 hx _ _ k.four Tryz.underlying45 rfl (by kernel_rfl) hn
theorem index_four0 (x : Ino) (w : World) : (Instr.index 45 (.agg #[.int .i64 x.a, .int .i64 x.b, .int .i64 x.c, .int .i64 x.d]) (.int .i64 0)).run Tryz.prog w = .ok (.int .i64 x.a) w := by kernel_rfl
theorem index_four1 (x : Ino) (w : World) : (Instr.index 45 (.agg #[.int .i64 x.a, .int .i64 x.b, .int .i64 x.c, .int .i64 x.d]) (.int .i64 1)).run Tryz.prog w = .ok (.int .i64 x.b) w := by kernel_rfl
theorem index_four2 (x : Ino) (w : World) : (Instr.index 45 (.agg #[.int .i64 x.a, .int .i64 x.b, .int .i64 x.c, .int .i64 x.d]) (.int .i64 2)).run Tryz.prog w = .ok (.int .i64 x.c) w := by kernel_rfl
theorem index_four3 (x : Ino) (w : World) : (Instr.index 45 (.agg #[.int .i64 x.a, .int .i64 x.b, .int .i64 x.c, .int .i64 x.d]) (.int .i64 3)).run Tryz.prog w = .ok (.int .i64 x.d) w := by kernel_rfl
theorem set_len (p : List UInt8) (a n v : Int) (w : World) (hp : p.length = 64) (h1 : -9223372036854775808 ≤ n) (h2 : n ≤ 9223372036854775807) :
    Calls Tryz.prog 96 #[pageV p, .int .i64 a, .int .i64 n, .int .i64 v] w fun e w' => (e = .returned (pageV (Pg.setN p a n v)) ∧ (Pg.setN p a n v).length = 64) ∧ Below w.heap.size w w' :=
  (set_any p a n v w hp h1 h2).mono fun _ _ h => ⟨⟨h.1, Pg.setN_length p a n v hp⟩, h.2⟩
end
end Go.Proofs.YtmpfcgjjejlhdaaGreat
