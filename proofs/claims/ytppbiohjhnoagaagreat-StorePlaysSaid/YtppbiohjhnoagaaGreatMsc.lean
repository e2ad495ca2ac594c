/-
  The contract of a store's Sync.
-/
import Derived.Test.YtppbiohjhnoagaaGreatMsb
namespace Go.Proofs.YtppbiohjhnoagaaGreat
open Go.RowKit Go.Maps
open Dk (zeros zeros_length)
open Jn (Chg)

/-- behind the Commit of a Sync -/
def smid (s : Sto) : Sto := if cntO s.group = 0 then s else scommit s
def Synced (b : Blk) (s : Sto) (w : World) (e : Ending) (w' : World) : Prop := ∃ E, e = .returned (.int .i64 E) ∧ E = ssyncE s ∧ StoreAt w' b (smid s) ∧ Only [b.j, b.d, b.l, b.m] w w'
theorem scommit_call {w : World} {b : Blk} {s : Sto} (h : StoreAt w b s) (ho : s.over = false) (hq0 : 0 ≤ s.q) (hq1 : s.q < 4294967290) (A : Option Addr) (c : Nat) (hc : ChAt w A b.all (chgs s.group)) :
    Calls Tryz.prog 39 #[.pointer (some ⟨b.j, 0, none⟩), .slice A (chgs s.group).length c] w (Synced b s w) := by
  obtain ⟨q, hj, hq⟩ := h.ja
  have hqq := hq ho
  subst hqq
  rw [ho] at hj
  have ne := Blk.ne h.nd
  have hjd : b.j ∉ [b.d, b.l, b.m] := by simp; omega
  have hnn : ¬ s.over = true := by rw [ho]; simp
  have m1 : b.s ∈ b.all ∧ b.t ∈ b.all ∧ b.g ∈ b.all := by simp [Blk.all]
  have m2 : b.s ∉ [b.d, b.l, b.m, b.j] ∧ b.t ∉ [b.d, b.l, b.m, b.j] ∧ b.g ∉ [b.d, b.l, b.m, b.j] := by simp; omega
  have hO := outer_any hj h.disk hjd h.ok.a9 h.ok.z9 h.ok.room h.ok.r32 h.ok.rz h.ok.reg A c (hc.mono (by simp [Blk.all])) (chgs_pages h.ok.gpg) (by rw [chgs_length]; have := h.ok.gcnt; have := h.ok.r32; omega) hq0 hq1
  unfold Comm at hO
  rw [show Jn.runs s.dk (Jn.steps s.a s.q (chgs s.group)) = srun s from rfl] at hO
  have hcok := scommit_ok h.ok
  have hse : ¬ cntO s.group = 0 → ssyncE s = (srun s).2 := fun hz => by unfold ssyncE; rw [if_neg hnn, if_neg hz]
  have hsm : smid s = if cntO s.group = 0 then s else { s with dk := (srun s).1, over := (srun s).2 != 0, q := s.q + 2 } := rfl
  unfold scommit at hcok
  unfold Synced
  rw [hsm]
  generalize srun s = R at *
  refine hO.mono ?_
  rintro e w' (⟨h1, _⟩ | ⟨h1, _⟩ | ⟨h1, rfl, h3⟩ | ⟨hm, rfl, hd, ⟨q', hj', hq'⟩, ho'⟩)
  · rw [chgs_takes h.ok.gpg] at h1; cases h1
  · rw [chgs_length] at h1
    have := h.ok.gcnt
    omega
  · have hz : cntO s.group = 0 := by rw [← chgs_length, h1]; rfl
    refine ⟨0, rfl, ?_, ?_, Only.below h3⟩
    · unfold ssyncE; rw [if_neg hnn, if_pos hz]
    · rw [if_pos hz]; exact h.below h3
  · have hz : ¬ cntO s.group = 0 := by rw [← chgs_length]; have := hm.pos; omega
    refine ⟨_, rfl, (hse hz).symm, ?_, ho'.mono (by simp)⟩
    rw [if_neg hz]
    have e1 : ∀ k, k ∈ b.all → k ∉ [b.d, b.l, b.m, b.j] → w'.heap[k]? = w.heap[k]? := fun k hk hn => ho'.block k (h.lt k hk) hn
    have f1 := h.row.block (e1 b.s m1.1 m2.1)
    have f2 := h.step.block (e1 b.t m1.2.1 m2.2.1)
    have f3 := h.group.block (e1 b.g m1.2.2 m2.2.2)
    have f4 : (R.2 != 0) = false → q' = s.q + 2 := fun hh => hq' (by simpa using hh)
    clear hO hse hsm ho' e1 hc hq
    exact ⟨f1, ⟨q', hj', f4⟩, hd, f2, f3, h.nd, hcok⟩
theorem ssync_nil (w : World) : Calls Tryz.prog 17 #[.pointer none] w fun e w' => e = .returned (.int .i64 5) ∧ w = w' := by
  go_enter Tryz.func17, Tryz.ntmps17
  go_wp2_with (go_at_call 23; refine (sover_nil _).mono ?_; rintro e w' ⟨rfl, rfl⟩)
  go_ret
  exact ⟨rfl, rfl⟩
theorem ssync_bad {s : Sto} (ho : s.over = false) (he : ¬ ssyncE s = 0) : ssync s = smid s := by
  have hnn : ¬ s.over = true := by rw [ho]; simp
  unfold ssyncE at he
  rw [if_neg hnn] at he
  unfold ssync smid
  rw [if_neg hnn]
  by_cases hz : cntO s.group = 0
  · rw [if_pos hz] at he; exact absurd rfl he
  · rw [if_neg hz] at he
    rw [if_neg hz, if_neg hz, if_neg he]
theorem ssync_good {s : Sto} (h : s.Ok) (ho : s.over = false) (he : ssyncE s = 0) : ssync s = { smid s with group := noPgs (smid s).dk.last.length } := by
  have hnn : ¬ s.over = true := by rw [ho]; simp
  unfold ssyncE at he
  rw [if_neg hnn] at he
  unfold ssync smid
  rw [if_neg hnn]
  by_cases hz : cntO s.group = 0
  · rw [if_pos hz, if_pos hz]
    have := cntO_zero hz
    rw [h.glen] at this
    rw [← this]
  · rw [if_neg hz] at he
    rw [if_neg hz, if_neg hz, if_pos he]
    have : (scommit s).dk.last.length = s.dk.last.length := srun_len s
    rw [this]
set_option maxRecDepth 100000 in
set_option maxHeartbeats 2000000 in
theorem ssync_any {w : World} {b : Blk} {s : Sto} (h : StoreAt w b s) (hq0 : 0 ≤ s.q) (hq1 : s.q < 4294967290) : Calls Tryz.prog 17 #[.pointer (some ⟨b.s, 0, none⟩)] w fun e w' =>
    e = .returned (.int .i64 (ssyncE s)) ∧ StoreAt w' b (ssync s) ∧ Only [b.j, b.d, b.l, b.m, b.g] w w' := by
  have HS := Lib.hid h
  have HV := Lib.hid (sover_any h)
  cases ho : s.over with
  | true =>
    have HE : Hid (ssyncE s = 5) := Lib.hid (by unfold ssyncE; rw [if_pos ho])
    have HF : Hid (ssync s = s) := Lib.hid (by unfold ssync; rw [if_pos ho])
    rw [HE.out, HF.out]
    rw [ho] at HV
    clear h ho HE HF
    go_enter Tryz.func17, Tryz.ntmps17
    go_wp2_with (go_at_call 23; refine HV.out.mono ?_; rintro e w' ⟨rfl, rfl⟩)
    go_ret
    exact ⟨rfl, HS.out, Only.refl _ _⟩
  | false =>
    rw [ho] at HV
    have HCM := Lib.hid (fun (W : World) (A : Option Addr) (c : Nat) (hW : StoreAt W b s) (hc : ChAt W A b.all (chgs s.group)) => scommit_call hW ho hq0 hq1 A c hc)
    have HBAD := Lib.hid (fun (he : ¬ ssyncE s = 0) => ssync_bad ho he)
    have HGOOD := Lib.hid (fun (he : ssyncE s = 0) => ssync_good h.ok ho he)
    clear h ho hq0 hq1
    go_enter Tryz.func17, Tryz.ntmps17
    go_wp2_with (go_at_call 23; refine HV.out.mono ?_; rintro e w' ⟨rfl, rfl⟩)
    refine wp_region_noPanic ?_
    refine wp_region_held_drew (S := fun W => W.cell? ⟨b.s, 0, none⟩ = some (.pointer (some ⟨b.j, 0, none⟩))) (by kernel_rfl) (HS.out.drew.c0) (fun hHeld => ?_)
    have HB1 : Hid (Below w.heap.size w w.drew) := Lib.hid (Below.refl _ _).drew
    have HS1 := Lib.hid HS.out.drew
    generalize w.drew = w1 at HB1 HS1 hHeld ⊢
    refine take_at (i := 0) (d := some 6) (v := .pointer (some ⟨b.s, 0, none⟩)) rfl rfl (by kernel_rfl) (by kernel_rfl) (by kernel_rfl) (fun _ _ _ h => h) (Or.inl ⟨by kernel_rfl, ?_⟩) hHeld ?_
    · intro w hSw; have c0 : w.cell? ⟨b.s, 0, none⟩ = some (.pointer (some ⟨b.j, 0, none⟩)) := hSw; go_simp
    (try simp only [Act.put, List.setIfInBounds_toArray, List.set_cons_zero, List.set_cons_succ])
    refine take_at (i := 1) (d := some 7) (v := .pointer (some ⟨b.s, 0, none⟩)) rfl rfl (by kernel_rfl) (by kernel_rfl) (by kernel_rfl) (fun _ _ _ h => h) (Or.inl ⟨by kernel_rfl, ?_⟩) hHeld ?_
    · intro w hSw; have c0 : w.cell? ⟨b.s, 0, none⟩ = some (.pointer (some ⟨b.j, 0, none⟩)) := hSw; go_simp
    (try simp only [Act.put, List.setIfInBounds_toArray, List.set_cons_zero, List.set_cons_succ])
    refine take_at (i := 2) (d := some 8) (v := .pointer (some ⟨b.s, 0, none⟩)) rfl rfl (by kernel_rfl) (by kernel_rfl) (by kernel_rfl) (fun _ _ _ h => h) (Or.inl ⟨by kernel_rfl, ?_⟩) hHeld ?_
    · intro w hSw; have c0 : w.cell? ⟨b.s, 0, none⟩ = some (.pointer (some ⟨b.j, 0, none⟩)) := hSw; go_simp
    (try simp only [Act.put, List.setIfInBounds_toArray, List.set_cons_zero, List.set_cons_succ])
    refine take_at (i := 3) (d := some 9) (v := .pointer (some ⟨b.j, 0, none⟩)) rfl rfl (by kernel_rfl) (by kernel_rfl) (by kernel_rfl) (fun _ _ _ h => h) (Or.inl ⟨by kernel_rfl, ?_⟩) hHeld ?_
    · intro w hSw; have c0 : w.cell? ⟨b.s, 0, none⟩ = some (.pointer (some ⟨b.j, 0, none⟩)) := hSw; go_simp
    (try simp only [Act.put, List.setIfInBounds_toArray, List.set_cons_zero, List.set_cons_succ])
    refine take_at (i := 4) (d := some 10) (v := .pointer (some ⟨b.s, 0, none⟩)) rfl rfl (by kernel_rfl) (by kernel_rfl) (by kernel_rfl) (fun _ _ _ h => h) (Or.inl ⟨by kernel_rfl, ?_⟩) hHeld ?_
    · intro w hSw; have c0 : w.cell? ⟨b.s, 0, none⟩ = some (.pointer (some ⟨b.j, 0, none⟩)) := hSw; go_simp
    (try simp only [Act.put, List.setIfInBounds_toArray, List.set_cons_zero, List.set_cons_succ])
    refine wpAnyH_ready (rs := [5]) (by kernel_rfl) (by simp) ?_
    refine AllReadyH.cons rfl (fun K hK => ?_) AllReadyH.nil
    go_simp
    (go_at_call 40; refine (schgs_any HS1.out).mono ?_; rintro e w2 ⟨A, c, rfl, hC2, hB2⟩; have HS2 := Lib.hid (HS1.out.below hB2); have HC2 := Lib.hid hC2; have HB2 := Lib.hid hB2; clear hC2 hB2)
    (try go_wp2_with fail)
    refine hK.out _ _ HS2.out.c0 (fun hHeld => ?_)
    clear hK K
    (try simp only [Act.put, List.setIfInBounds_toArray, List.set_cons_zero, List.set_cons_succ])
    refine wpAnyH_ready (rs := [6]) (by kernel_rfl) (by simp) ?_
    refine AllReadyH.cons rfl (fun K hK => ?_) AllReadyH.nil
    go_simp
    (go_at_call 39; refine (HCM.out w2 A c HS2.out HC2.out).mono ?_; rintro e w3 ⟨E, rfl, hE, hS3, hO3⟩; have HS3 := Lib.hid hS3; have HO3 := Lib.hid hO3; have HE := Lib.hid hE; clear hS3 hO3 hE)
    (try go_wp2_with fail)
    refine hK.out _ _ HS3.out.c0 (fun hHeld => ?_)
    clear hK K
    (try simp only [Act.put, List.setIfInBounds_toArray, List.set_cons_zero, List.set_cons_succ])
    refine take_at (i := 7) (d := some 3) (v := .int .i64 E) rfl rfl (by kernel_rfl) (by kernel_rfl) (by kernel_rfl) (fun _ _ _ h => h) (Or.inl ⟨by kernel_rfl, ?_⟩) hHeld ?_
    · intro w hSw; have c0 : w.cell? ⟨b.s, 0, none⟩ = some (.pointer (some ⟨b.j, 0, none⟩)) := hSw; go_simp
    (try simp only [Act.put, List.setIfInBounds_toArray, List.set_cons_zero, List.set_cons_succ])
    refine wpAnyH_done (by kernel_rfl) ?_ _
    refine NoPanic.normal ?_
    have HOO : Hid (Only [b.j, b.d, b.l, b.m, b.g] w w3) := Lib.hid ((Only.below (HB1.out.trans (HB2.out.mono HB1.out.size))).trans (HO3.out.mono (by simp)))
    clear HS HV HCM HB1 HS1 HB2 HS2 HC2 HO3
    by_cases hE0 : E = 0
    · subst hE0
      have HG := Lib.hid (HGOOD.out HE.out.symm)
      have c5 := HS3.out.c5
      obtain ⟨w4, hcl0, hmp, htn⟩ := HS3.out.group.clear (smid s).dk.last.length 0
      have hcl : ∀ ty, (Builtin.clear_ #[65] ty #[.map (some b.g)]).run Tryz.prog w3 = .ok (.tuple #[]) w4 := fun ty => hcl0
      have HM := Lib.hid hmp
      have HT := Lib.hid htn
      clear hcl0 hmp htn HBAD HGOOD
      go_wp2_with fail
      go_ret
      have ho : Only [b.g] w3 w4 := Only.grown HT.out.grown (by simp)
      refine ⟨by rw [← HE.out]; rfl, ?_, HOO.out.trans (ho.mono (by simp))⟩
      rw [HG.out]
      exact HS3.out.setGroup ho HM.out (sclear_ok HS3.out.ok rfl)
    · have HG := Lib.hid (HBAD.out (by rw [← HE.out]; exact hE0))
      have hne2 : (E == 0) = false := by simpa using hE0
      have hne3 : (E != 0) = true := by simpa using hE0
      clear hE0 HBAD HGOOD
      go_wp2_with fail
      go_ret
      exact ⟨by rw [← HE.out]; rfl, by rw [HG.out]; exact HS3.out, HOO.out⟩
end Go.Proofs.YtppbiohjhnoagaaGreat

/-
  The contract of a store's Keep.
-/
namespace Go.Proofs.YtppbiohjhnoagaaGreat
open Go.RowKit Go.Maps
open Dk (zeros zeros_length)
open Jn (Chg)

theorem skeep_nil (w : World) : Calls Tryz.prog 14 #[.pointer none] w fun e w' => e = .returned (.int .i64 5) ∧ w = w' := by
  go_enter Tryz.func14, Tryz.ntmps14
  go_wp2_with (go_at_call 23; refine (sover_nil _).mono ?_; rintro e w' ⟨rfl, rfl⟩)
  go_ret
  exact ⟨rfl, rfl⟩
theorem sgrp_ok {s : Sto} (h : s.Ok) (hc : stog s ≤ s.r) : Sto.Ok { s with group := joinP s.group s.step } :=
  ⟨h.slen, by show (joinP _ _).length = _; rw [joinP_length]; exact h.glen, h.spg, pagesOk_join h.gpg h.spg, h.scnt, hc, h.a9, h.z9, h.reg, h.room, h.r1, h.r32, h.rz⟩
theorem copy_store {w : World} {b : Blk} {s : Sto} (h : StoreAt w b s) (hc : stog s ≤ s.r) : Calls Tryz.prog 38 #[.map (some b.g), .map (some b.t)] w fun e w' =>
    e = .returned (.tuple #[]) ∧ StoreAt w' b { s with group := joinP s.group s.step } ∧ Only [b.g] w w' := by
  have ne := Blk.ne h.nd
  refine (copy_any h.group h.step (by omega) (by rw [h.ok.slen, h.ok.glen]) (by rw [h.ok.glen]; have := h.disk.ok.small; omega)).mono ?_
  rintro e w' ⟨rfl, hm, ho⟩
  exact ⟨rfl, h.setGroup ho hm (sgrp_ok h.ok hc), ho⟩
theorem stog_le {s : Sto} (h : s.Ok) (hn : s.dk.last.length ≤ 512) : stog s ≤ 512 := by
  unfold stog
  refine Nat.le_trans (cntO_le _) ?_
  rw [joinP_length, h.glen]; exact hn
set_option maxRecDepth 100000 in
set_option maxHeartbeats 2000000 in
theorem skeep_any {w : World} {b : Blk} {s : Sto} (h : StoreAt w b s) (hq0 : 0 ≤ s.q) (hq1 : s.q < 4294967290) : Calls Tryz.prog 14 #[.pointer (some ⟨b.s, 0, none⟩)] w fun e w' =>
    e = .returned (.int .i64 (skeepE s)) ∧ StoreAt w' b (skeep s) ∧ Only [b.j, b.d, b.l, b.m, b.g, b.t] w w' := by
  have HS := Lib.hid h
  have HV := Lib.hid (sover_any h)
  have HOK0 := Lib.hid h.ok
  cases ho : s.over with
  | true =>
    have HE : Hid (skeepE s = 5) := Lib.hid (by unfold skeepE; rw [if_pos ho])
    have HF : Hid (skeep s = s) := Lib.hid (by unfold skeep; rw [if_pos ho])
    rw [HE.out, HF.out]
    rw [ho] at HV
    clear h ho HE HF
    go_enter Tryz.func14, Tryz.ntmps14
    go_wp2_with (go_at_call 23; refine HV.out.mono ?_; rintro e w' ⟨rfl, rfl⟩)
    go_ret
    exact ⟨rfl, HS.out, Only.refl _ _⟩
  | false =>
    rw [ho] at HV
    have hnn : ¬ s.over = true := by rw [ho]; simp
    have HTG := Lib.hid (fun (W : World) (hW : StoreAt W b s) => stog_any hW)
    have HRM := Lib.hid (fun (W : World) (hW : StoreAt W b s) => show Calls Tryz.prog 30 #[.pointer (some ⟨b.j, 0, none⟩)] W fun e w' => e = .returned (.int .i64 (s.r : Int)) ∧ W = w' from by
      obtain ⟨q', hj', _⟩ := hW.ja
      exact mroom_any hj' hW.ok.room)
    have HSY := Lib.hid (fun (W : World) (hW : StoreAt W b s) => ssync_any hW hq0 hq1)
    have hT5 := stog_le h.ok h.disk.ok.small
    have hR5 := h.ok.r32
    by_cases hr : s.r < stog s
    · by_cases he : ssyncE s = 0
      · have HE : Hid (skeepE s = 0) := Lib.hid (by unfold skeepE; rw [if_neg hnn, if_pos hr, he])
        have HF : Hid (skeep s = sjoin (ssync s)) := Lib.hid (by unfold skeep; rw [if_neg hnn, if_pos hr, if_pos he])
        have HJK := Lib.hid (sjoin_sync h.ok he)
        have HOK := Lib.hid (ssync_ok h.ok)
        rw [he] at HSY
        rw [HE.out, HF.out]
        clear HE HF h ho hnn he hq0 hq1 HOK0
        have hr' : (s.r : Int) < (stog s : Int) := by omega
        generalize stog s = T at HTG hT5 hr hr'
        generalize s.r = rr at HRM hR5 hr hr'
        generalize ssync s = s1 at HSY HJK HOK ⊢
        go_enter Tryz.func14, Tryz.ntmps14
        go_wp2_with (go_at_call 23; refine HV.out.mono ?_; rintro e w' ⟨rfl, rfl⟩)
        refine wp_region_noPanic ?_
        refine wp_region_held_drew (S := fun W => StoreAt W b s) (by kernel_rfl) HS.out.drew (fun hHeld => ?_)
        have HB1 : Hid (Below w.heap.size w w.drew) := Lib.hid (Below.refl _ _).drew
        have HS1 := Lib.hid HS.out.drew
        generalize w.drew = w1 at HB1 HS1 hHeld ⊢
        refine take_at (i := 0) (d := some 6) (v := .pointer (some ⟨b.s, 0, none⟩)) rfl rfl (by kernel_rfl) (by kernel_rfl) (by kernel_rfl) (fun _ _ _ h => h) (Or.inl ⟨by kernel_rfl, ?_⟩) hHeld ?_
        · intro w hSw; have c0 := StoreAt.c0 hSw; go_simp
        (try simp only [Act.put, List.setIfInBounds_toArray, List.set_cons_zero, List.set_cons_succ])
        refine take_at (i := 2) (d := some 8) (v := .pointer (some ⟨b.s, 0, none⟩)) rfl rfl (by kernel_rfl) (by kernel_rfl) (by kernel_rfl) (fun _ _ _ h => h) (Or.inl ⟨by kernel_rfl, ?_⟩) hHeld ?_
        · intro w hSw; have c0 := StoreAt.c0 hSw; go_simp
        (try simp only [Act.put, List.setIfInBounds_toArray, List.set_cons_zero, List.set_cons_succ])
        refine take_at (i := 3) (d := some 9) (v := .pointer (some ⟨b.s, 0, none⟩)) rfl rfl (by kernel_rfl) (by kernel_rfl) (by kernel_rfl) (fun _ _ _ h => h) (Or.inl ⟨by kernel_rfl, ?_⟩) hHeld ?_
        · intro w hSw; have c0 := StoreAt.c0 hSw; go_simp
        (try simp only [Act.put, List.setIfInBounds_toArray, List.set_cons_zero, List.set_cons_succ])
        refine take_at (i := 4) (d := some 10) (v := .pointer (some ⟨b.s, 0, none⟩)) rfl rfl (by kernel_rfl) (by kernel_rfl) (by kernel_rfl) (fun _ _ _ h => h) (Or.inl ⟨by kernel_rfl, ?_⟩) hHeld ?_
        · intro w hSw; have c0 := StoreAt.c0 hSw; go_simp
        (try simp only [Act.put, List.setIfInBounds_toArray, List.set_cons_zero, List.set_cons_succ])
        refine take_at (i := 5) (d := some 11) (v := .pointer (some ⟨b.j, 0, none⟩)) rfl rfl (by kernel_rfl) (by kernel_rfl) (by kernel_rfl) (fun _ _ _ h => h) (Or.inl ⟨by kernel_rfl, ?_⟩) hHeld ?_
        · intro w hSw; have c0 := StoreAt.c0 hSw; go_simp
        (try simp only [Act.put, List.setIfInBounds_toArray, List.set_cons_zero, List.set_cons_succ])
        refine wpAnyH_ready (rs := [1]) (by kernel_rfl) (by simp) ?_
        refine AllReadyH.cons rfl (fun K hK => ?_) AllReadyH.nil
        go_simp
        (go_at_call 37; refine (HTG.out w1 HS1.out).mono ?_; rintro e w2 ⟨rfl, hB2⟩; have HS2 := Lib.hid (HS1.out.below hB2); have HB2 := Lib.hid (HB1.out.trans (hB2.mono HB1.out.size)); clear hB2 HS1 HB1)
        (try go_wp2_with fail)
        refine hK.out _ _ HS2.out (fun hHeld => ?_)
        clear hK K
        (try simp only [Act.put, List.setIfInBounds_toArray, List.set_cons_zero, List.set_cons_succ])
        refine wpAnyH_ready (rs := [6]) (by kernel_rfl) (by simp) ?_
        refine AllReadyH.cons rfl (fun K hK => ?_) AllReadyH.nil
        go_simp
        (go_at_call 30; refine (HRM.out w2 HS2.out).mono ?_; rintro e w3 ⟨rfl, hw3⟩; subst hw3)
        (try go_wp2_with fail)
        refine hK.out _ _ HS2.out (fun hHeld => ?_)
        clear hK K
        (try simp only [Act.put, List.setIfInBounds_toArray, List.set_cons_zero, List.set_cons_succ])
        refine take_at (i := 7) (d := some 13) (v := .bool true) rfl rfl (by kernel_rfl) (by kernel_rfl) (by kernel_rfl) (fun _ _ _ h => h) (Or.inl ⟨by kernel_rfl, ?_⟩) hHeld ?_
        · intro w hSw; have c0 := StoreAt.c0 hSw; go_simp
        (try simp only [Act.put, List.setIfInBounds_toArray, List.set_cons_zero, List.set_cons_succ])
        refine wpAnyH_done (by kernel_rfl) ?_ _
        refine NoPanic.normal ?_
        clear HTG HRM HV HS
        go_wp2_with fail
        refine (HSY.out w2 HS2.out).mono ?_
        rintro e w4 ⟨rfl, hS4, hO4⟩
        have HS4 := Lib.hid hS4
        have HOO : Hid (Only [b.j, b.d, b.l, b.m, b.g, b.t] w w4) := Lib.hid ((Only.below HB2.out).trans (hO4.mono (by simp)))
        clear hS4 hO4 HSY HS2 HB2
        go_wp2_with fail
        refine wp_region_noPanic ?_
        refine wp_region_held_drew (S := fun W => W.cell? ⟨b.s, 4, none⟩ = some (.map (some b.t)) ∧ W.cell? ⟨b.s, 5, none⟩ = some (.map (some b.g))) (by kernel_rfl) ⟨HS4.out.drew.c4, HS4.out.drew.c5⟩ (fun hHeld => ?_)
        have HO5 : Hid (Only [b.j, b.d, b.l, b.m, b.g, b.t] w w4.drew) := Lib.hid (HOO.out.drew)
        have HS5 := Lib.hid HS4.out.drew
        clear HOO
        generalize w4.drew = w5 at HO5 HS5 hHeld ⊢
        refine take_at (i := 0) (d := some 19) (v := .pointer (some ⟨b.s, 0, none⟩)) rfl rfl (by kernel_rfl) (by kernel_rfl) (by kernel_rfl) (fun _ _ _ h => h) (Or.inl ⟨by kernel_rfl, ?_⟩) hHeld ?_
        · intro w hSw; have c4 := hSw.1; have c5 := hSw.2; go_simp
        (try simp only [Act.put, List.setIfInBounds_toArray, List.set_cons_zero, List.set_cons_succ])
        refine take_at (i := 1) (d := some 20) (v := .pointer (some ⟨b.s, 0, none⟩)) rfl rfl (by kernel_rfl) (by kernel_rfl) (by kernel_rfl) (fun _ _ _ h => h) (Or.inl ⟨by kernel_rfl, ?_⟩) hHeld ?_
        · intro w hSw; have c4 := hSw.1; have c5 := hSw.2; go_simp
        (try simp only [Act.put, List.setIfInBounds_toArray, List.set_cons_zero, List.set_cons_succ])
        refine take_at (i := 2) (d := some 21) (v := .pointer (some ⟨b.s, 5, none⟩)) rfl rfl (by kernel_rfl) (by kernel_rfl) (by kernel_rfl) (fun _ _ _ h => h) (Or.inl ⟨by kernel_rfl, ?_⟩) hHeld ?_
        · intro w hSw; have c4 := hSw.1; have c5 := hSw.2; go_simp
        (try simp only [Act.put, List.setIfInBounds_toArray, List.set_cons_zero, List.set_cons_succ])
        refine take_at (i := 3) (d := some 22) (v := .map (some b.g)) rfl rfl (by kernel_rfl) (by kernel_rfl) (by kernel_rfl) (fun _ _ _ h => h) (Or.inl ⟨by kernel_rfl, ?_⟩) hHeld ?_
        · intro w hSw; have c4 := hSw.1; have c5 := hSw.2; go_simp
        (try simp only [Act.put, List.setIfInBounds_toArray, List.set_cons_zero, List.set_cons_succ])
        refine take_at (i := 4) (d := some 23) (v := .pointer (some ⟨b.s, 0, none⟩)) rfl rfl (by kernel_rfl) (by kernel_rfl) (by kernel_rfl) (fun _ _ _ h => h) (Or.inl ⟨by kernel_rfl, ?_⟩) hHeld ?_
        · intro w hSw; have c4 := hSw.1; have c5 := hSw.2; go_simp
        (try simp only [Act.put, List.setIfInBounds_toArray, List.set_cons_zero, List.set_cons_succ])
        refine take_at (i := 5) (d := some 24) (v := .pointer (some ⟨b.s, 0, none⟩)) rfl rfl (by kernel_rfl) (by kernel_rfl) (by kernel_rfl) (fun _ _ _ h => h) (Or.inl ⟨by kernel_rfl, ?_⟩) hHeld ?_
        · intro w hSw; have c4 := hSw.1; have c5 := hSw.2; go_simp
        (try simp only [Act.put, List.setIfInBounds_toArray, List.set_cons_zero, List.set_cons_succ])
        refine take_at (i := 6) (d := some 25) (v := .pointer (some ⟨b.s, 4, none⟩)) rfl rfl (by kernel_rfl) (by kernel_rfl) (by kernel_rfl) (fun _ _ _ h => h) (Or.inl ⟨by kernel_rfl, ?_⟩) hHeld ?_
        · intro w hSw; have c4 := hSw.1; have c5 := hSw.2; go_simp
        (try simp only [Act.put, List.setIfInBounds_toArray, List.set_cons_zero, List.set_cons_succ])
        refine take_at (i := 7) (d := some 26) (v := .map (some b.t)) rfl rfl (by kernel_rfl) (by kernel_rfl) (by kernel_rfl) (fun _ _ _ h => h) (Or.inl ⟨by kernel_rfl, ?_⟩) hHeld ?_
        · intro w hSw; have c4 := hSw.1; have c5 := hSw.2; go_simp
        (try simp only [Act.put, List.setIfInBounds_toArray, List.set_cons_zero, List.set_cons_succ])
        refine wpAnyH_ready (rs := [8]) (by kernel_rfl) (by simp) ?_
        refine AllReadyH.cons rfl (fun K hK => ?_) AllReadyH.nil
        go_simp
        (go_at_call 38; refine (copy_store HS5.out HJK.out).mono ?_; rintro e w6 ⟨rfl, hS6, hO6⟩; have HS6 := Lib.hid hS6; have HO6 := Lib.hid (HO5.out.trans (hO6.mono (by simp))); clear hS6 hO6 HS5 HO5)
        (try go_wp2_with fail)
        refine hK.out _ _ ⟨HS6.out.c4, HS6.out.c5⟩ (fun hHeld => ?_)
        clear hK K
        (try simp only [Act.put, List.setIfInBounds_toArray, List.set_cons_zero, List.set_cons_succ])
        refine wpAnyH_done (by kernel_rfl) ?_ _
        refine NoPanic.normal ?_
        have c4 := HS6.out.c4
        obtain ⟨w7, hcl0, hmp, htn⟩ := HS6.out.step.clear (s1).dk.last.length 0
        have hcl : ∀ ty, (Builtin.clear_ #[65] ty #[.map (some b.t)]).run Tryz.prog w6 = .ok (.tuple #[]) w7 := fun ty => hcl0
        have HM := Lib.hid hmp
        have HT := Lib.hid htn
        clear hcl0 hmp htn
        go_wp2_with fail
        go_ret
        have ho : Only [b.t] w6 w7 := Only.grown HT.out.grown (by simp)
        refine ⟨rfl, ?_, HO6.out.trans (ho.mono (by simp))⟩
        unfold sjoin
        exact HS6.out.setStep ho HM.out (sjoin_ok HOK.out HJK.out)
      · have HE : Hid (skeepE s = ssyncE s) := Lib.hid (by unfold skeepE; rw [if_neg hnn, if_pos hr])
        have HF : Hid (skeep s = ssync s) := Lib.hid (by unfold skeep; rw [if_neg hnn, if_pos hr, if_neg he])
        rw [HE.out, HF.out]
        have hne2 : (ssyncE s == 0) = false := by simpa using he
        have hne3 : (ssyncE s != 0) = true := by simpa using he
        clear HE HF h ho hnn he hq0 hq1 HOK0
        have hr' : (s.r : Int) < (stog s : Int) := by omega
        generalize stog s = T at HTG hT5 hr hr'
        generalize s.r = rr at HRM hR5 hr hr'
        generalize ssync s = s1 at HSY ⊢
        generalize ssyncE s = E at HSY hne2 hne3 ⊢
        go_enter Tryz.func14, Tryz.ntmps14
        go_wp2_with (go_at_call 23; refine HV.out.mono ?_; rintro e w' ⟨rfl, rfl⟩)
        refine wp_region_noPanic ?_
        refine wp_region_held_drew (S := fun W => StoreAt W b s) (by kernel_rfl) HS.out.drew (fun hHeld => ?_)
        have HB1 : Hid (Below w.heap.size w w.drew) := Lib.hid (Below.refl _ _).drew
        have HS1 := Lib.hid HS.out.drew
        generalize w.drew = w1 at HB1 HS1 hHeld ⊢
        refine take_at (i := 0) (d := some 6) (v := .pointer (some ⟨b.s, 0, none⟩)) rfl rfl (by kernel_rfl) (by kernel_rfl) (by kernel_rfl) (fun _ _ _ h => h) (Or.inl ⟨by kernel_rfl, ?_⟩) hHeld ?_
        · intro w hSw; have c0 := StoreAt.c0 hSw; go_simp
        (try simp only [Act.put, List.setIfInBounds_toArray, List.set_cons_zero, List.set_cons_succ])
        refine take_at (i := 2) (d := some 8) (v := .pointer (some ⟨b.s, 0, none⟩)) rfl rfl (by kernel_rfl) (by kernel_rfl) (by kernel_rfl) (fun _ _ _ h => h) (Or.inl ⟨by kernel_rfl, ?_⟩) hHeld ?_
        · intro w hSw; have c0 := StoreAt.c0 hSw; go_simp
        (try simp only [Act.put, List.setIfInBounds_toArray, List.set_cons_zero, List.set_cons_succ])
        refine take_at (i := 3) (d := some 9) (v := .pointer (some ⟨b.s, 0, none⟩)) rfl rfl (by kernel_rfl) (by kernel_rfl) (by kernel_rfl) (fun _ _ _ h => h) (Or.inl ⟨by kernel_rfl, ?_⟩) hHeld ?_
        · intro w hSw; have c0 := StoreAt.c0 hSw; go_simp
        (try simp only [Act.put, List.setIfInBounds_toArray, List.set_cons_zero, List.set_cons_succ])
        refine take_at (i := 4) (d := some 10) (v := .pointer (some ⟨b.s, 0, none⟩)) rfl rfl (by kernel_rfl) (by kernel_rfl) (by kernel_rfl) (fun _ _ _ h => h) (Or.inl ⟨by kernel_rfl, ?_⟩) hHeld ?_
        · intro w hSw; have c0 := StoreAt.c0 hSw; go_simp
        (try simp only [Act.put, List.setIfInBounds_toArray, List.set_cons_zero, List.set_cons_succ])
        refine take_at (i := 5) (d := some 11) (v := .pointer (some ⟨b.j, 0, none⟩)) rfl rfl (by kernel_rfl) (by kernel_rfl) (by kernel_rfl) (fun _ _ _ h => h) (Or.inl ⟨by kernel_rfl, ?_⟩) hHeld ?_
        · intro w hSw; have c0 := StoreAt.c0 hSw; go_simp
        (try simp only [Act.put, List.setIfInBounds_toArray, List.set_cons_zero, List.set_cons_succ])
        refine wpAnyH_ready (rs := [1]) (by kernel_rfl) (by simp) ?_
        refine AllReadyH.cons rfl (fun K hK => ?_) AllReadyH.nil
        go_simp
        (go_at_call 37; refine (HTG.out w1 HS1.out).mono ?_; rintro e w2 ⟨rfl, hB2⟩; have HS2 := Lib.hid (HS1.out.below hB2); have HB2 := Lib.hid (HB1.out.trans (hB2.mono HB1.out.size)); clear hB2 HS1 HB1)
        (try go_wp2_with fail)
        refine hK.out _ _ HS2.out (fun hHeld => ?_)
        clear hK K
        (try simp only [Act.put, List.setIfInBounds_toArray, List.set_cons_zero, List.set_cons_succ])
        refine wpAnyH_ready (rs := [6]) (by kernel_rfl) (by simp) ?_
        refine AllReadyH.cons rfl (fun K hK => ?_) AllReadyH.nil
        go_simp
        (go_at_call 30; refine (HRM.out w2 HS2.out).mono ?_; rintro e w3 ⟨rfl, hw3⟩; subst hw3)
        (try go_wp2_with fail)
        refine hK.out _ _ HS2.out (fun hHeld => ?_)
        clear hK K
        (try simp only [Act.put, List.setIfInBounds_toArray, List.set_cons_zero, List.set_cons_succ])
        refine take_at (i := 7) (d := some 13) (v := .bool true) rfl rfl (by kernel_rfl) (by kernel_rfl) (by kernel_rfl) (fun _ _ _ h => h) (Or.inl ⟨by kernel_rfl, ?_⟩) hHeld ?_
        · intro w hSw; have c0 := StoreAt.c0 hSw; go_simp
        (try simp only [Act.put, List.setIfInBounds_toArray, List.set_cons_zero, List.set_cons_succ])
        refine wpAnyH_done (by kernel_rfl) ?_ _
        refine NoPanic.normal ?_
        clear HTG HRM HV HS
        go_wp2_with fail
        refine (HSY.out w2 HS2.out).mono ?_
        rintro e w4 ⟨rfl, hS4, hO4⟩
        have HS4 := Lib.hid hS4
        have HOO : Hid (Only [b.j, b.d, b.l, b.m, b.g, b.t] w w4) := Lib.hid ((Only.below HB2.out).trans (hO4.mono (by simp)))
        clear hS4 hO4 HSY HS2 HB2
        go_wp2_with fail
        go_ret
        exact ⟨rfl, HS4.out, HOO.out⟩
    · have HE : Hid (skeepE s = 0) := Lib.hid (by unfold skeepE; rw [if_neg hnn, if_neg hr])
      have HF : Hid (skeep s = sjoin s) := Lib.hid (by unfold skeep; rw [if_neg hnn, if_neg hr])
      have HJK : Hid (stog s ≤ s.r) := Lib.hid (by omega)
      have HOK := Lib.hid h.ok
      rw [HE.out, HF.out]
      clear HE HF h ho hnn hq0 hq1 HOK0
      have hr' : ¬ ((s.r : Int) < (stog s : Int)) := by omega
      have hr2 : decide ((s.r : Int) < (stog s : Int)) = false := decide_eq_false hr'
      generalize hTT : stog s = T at HTG hT5 hr hr' hr2
      generalize hRR : s.r = rr at HRM hR5 hr hr' hr2
      clear hTT hRR
      go_enter Tryz.func14, Tryz.ntmps14
      go_wp2_with (go_at_call 23; refine HV.out.mono ?_; rintro e w' ⟨rfl, rfl⟩)
      refine wp_region_noPanic ?_
      refine wp_region_held_drew (S := fun W => StoreAt W b s) (by kernel_rfl) HS.out.drew (fun hHeld => ?_)
      have HB1 : Hid (Below w.heap.size w w.drew) := Lib.hid (Below.refl _ _).drew
      have HS1 := Lib.hid HS.out.drew
      generalize w.drew = w1 at HB1 HS1 hHeld ⊢
      refine take_at (i := 0) (d := some 6) (v := .pointer (some ⟨b.s, 0, none⟩)) rfl rfl (by kernel_rfl) (by kernel_rfl) (by kernel_rfl) (fun _ _ _ h => h) (Or.inl ⟨by kernel_rfl, ?_⟩) hHeld ?_
      · intro w hSw; have c0 := StoreAt.c0 hSw; go_simp
      (try simp only [Act.put, List.setIfInBounds_toArray, List.set_cons_zero, List.set_cons_succ])
      refine take_at (i := 2) (d := some 8) (v := .pointer (some ⟨b.s, 0, none⟩)) rfl rfl (by kernel_rfl) (by kernel_rfl) (by kernel_rfl) (fun _ _ _ h => h) (Or.inl ⟨by kernel_rfl, ?_⟩) hHeld ?_
      · intro w hSw; have c0 := StoreAt.c0 hSw; go_simp
      (try simp only [Act.put, List.setIfInBounds_toArray, List.set_cons_zero, List.set_cons_succ])
      refine take_at (i := 3) (d := some 9) (v := .pointer (some ⟨b.s, 0, none⟩)) rfl rfl (by kernel_rfl) (by kernel_rfl) (by kernel_rfl) (fun _ _ _ h => h) (Or.inl ⟨by kernel_rfl, ?_⟩) hHeld ?_
      · intro w hSw; have c0 := StoreAt.c0 hSw; go_simp
      (try simp only [Act.put, List.setIfInBounds_toArray, List.set_cons_zero, List.set_cons_succ])
      refine take_at (i := 4) (d := some 10) (v := .pointer (some ⟨b.s, 0, none⟩)) rfl rfl (by kernel_rfl) (by kernel_rfl) (by kernel_rfl) (fun _ _ _ h => h) (Or.inl ⟨by kernel_rfl, ?_⟩) hHeld ?_
      · intro w hSw; have c0 := StoreAt.c0 hSw; go_simp
      (try simp only [Act.put, List.setIfInBounds_toArray, List.set_cons_zero, List.set_cons_succ])
      refine take_at (i := 5) (d := some 11) (v := .pointer (some ⟨b.j, 0, none⟩)) rfl rfl (by kernel_rfl) (by kernel_rfl) (by kernel_rfl) (fun _ _ _ h => h) (Or.inl ⟨by kernel_rfl, ?_⟩) hHeld ?_
      · intro w hSw; have c0 := StoreAt.c0 hSw; go_simp
      (try simp only [Act.put, List.setIfInBounds_toArray, List.set_cons_zero, List.set_cons_succ])
      refine wpAnyH_ready (rs := [1]) (by kernel_rfl) (by simp) ?_
      refine AllReadyH.cons rfl (fun K hK => ?_) AllReadyH.nil
      go_simp
      (go_at_call 37; refine (HTG.out w1 HS1.out).mono ?_; rintro e w2 ⟨rfl, hB2⟩; have HS2 := Lib.hid (HS1.out.below hB2); have HB2 := Lib.hid (HB1.out.trans (hB2.mono HB1.out.size)); clear hB2 HS1 HB1)
      (try go_wp2_with fail)
      refine hK.out _ _ HS2.out (fun hHeld => ?_)
      clear hK K
      (try simp only [Act.put, List.setIfInBounds_toArray, List.set_cons_zero, List.set_cons_succ])
      refine wpAnyH_ready (rs := [6]) (by kernel_rfl) (by simp) ?_
      refine AllReadyH.cons rfl (fun K hK => ?_) AllReadyH.nil
      go_simp
      (go_at_call 30; refine (HRM.out w2 HS2.out).mono ?_; rintro e w3 ⟨rfl, hw3⟩; subst hw3)
      (try go_wp2_with fail)
      refine hK.out _ _ HS2.out (fun hHeld => ?_)
      clear hK K
      (try simp only [Act.put, List.setIfInBounds_toArray, List.set_cons_zero, List.set_cons_succ])
      refine take_at (i := 7) (d := some 13) (v := .bool false) rfl rfl (by kernel_rfl) (by kernel_rfl) (by kernel_rfl) (fun _ _ _ h => h) (Or.inl ⟨by kernel_rfl, ?_⟩) hHeld ?_
      · intro w hSw; have c0 := StoreAt.c0 hSw; go_simp
      (try simp only [Act.put, List.setIfInBounds_toArray, List.set_cons_zero, List.set_cons_succ])
      refine wpAnyH_done (by kernel_rfl) ?_ _
      refine NoPanic.normal ?_
      have HOO : Hid (Only [b.j, b.d, b.l, b.m, b.g, b.t] w w2) := Lib.hid (Only.below HB2.out)
      clear HTG HRM HV HS HSY HB2
      go_wp2_with fail
      refine wp_region_noPanic ?_
      refine wp_region_held_drew (S := fun W => W.cell? ⟨b.s, 4, none⟩ = some (.map (some b.t)) ∧ W.cell? ⟨b.s, 5, none⟩ = some (.map (some b.g))) (by kernel_rfl) ⟨HS2.out.drew.c4, HS2.out.drew.c5⟩ (fun hHeld => ?_)
      have HO5 : Hid (Only [b.j, b.d, b.l, b.m, b.g, b.t] w w2.drew) := Lib.hid (HOO.out.drew)
      have HS5 := Lib.hid HS2.out.drew
      clear HOO
      generalize w2.drew = w5 at HO5 HS5 hHeld ⊢
      refine take_at (i := 0) (d := some 19) (v := .pointer (some ⟨b.s, 0, none⟩)) rfl rfl (by kernel_rfl) (by kernel_rfl) (by kernel_rfl) (fun _ _ _ h => h) (Or.inl ⟨by kernel_rfl, ?_⟩) hHeld ?_
      · intro w hSw; have c4 := hSw.1; have c5 := hSw.2; go_simp
      (try simp only [Act.put, List.setIfInBounds_toArray, List.set_cons_zero, List.set_cons_succ])
      refine take_at (i := 1) (d := some 20) (v := .pointer (some ⟨b.s, 0, none⟩)) rfl rfl (by kernel_rfl) (by kernel_rfl) (by kernel_rfl) (fun _ _ _ h => h) (Or.inl ⟨by kernel_rfl, ?_⟩) hHeld ?_
      · intro w hSw; have c4 := hSw.1; have c5 := hSw.2; go_simp
      (try simp only [Act.put, List.setIfInBounds_toArray, List.set_cons_zero, List.set_cons_succ])
      refine take_at (i := 2) (d := some 21) (v := .pointer (some ⟨b.s, 5, none⟩)) rfl rfl (by kernel_rfl) (by kernel_rfl) (by kernel_rfl) (fun _ _ _ h => h) (Or.inl ⟨by kernel_rfl, ?_⟩) hHeld ?_
      · intro w hSw; have c4 := hSw.1; have c5 := hSw.2; go_simp
      (try simp only [Act.put, List.setIfInBounds_toArray, List.set_cons_zero, List.set_cons_succ])
      refine take_at (i := 3) (d := some 22) (v := .map (some b.g)) rfl rfl (by kernel_rfl) (by kernel_rfl) (by kernel_rfl) (fun _ _ _ h => h) (Or.inl ⟨by kernel_rfl, ?_⟩) hHeld ?_
      · intro w hSw; have c4 := hSw.1; have c5 := hSw.2; go_simp
      (try simp only [Act.put, List.setIfInBounds_toArray, List.set_cons_zero, List.set_cons_succ])
      refine take_at (i := 4) (d := some 23) (v := .pointer (some ⟨b.s, 0, none⟩)) rfl rfl (by kernel_rfl) (by kernel_rfl) (by kernel_rfl) (fun _ _ _ h => h) (Or.inl ⟨by kernel_rfl, ?_⟩) hHeld ?_
      · intro w hSw; have c4 := hSw.1; have c5 := hSw.2; go_simp
      (try simp only [Act.put, List.setIfInBounds_toArray, List.set_cons_zero, List.set_cons_succ])
      refine take_at (i := 5) (d := some 24) (v := .pointer (some ⟨b.s, 0, none⟩)) rfl rfl (by kernel_rfl) (by kernel_rfl) (by kernel_rfl) (fun _ _ _ h => h) (Or.inl ⟨by kernel_rfl, ?_⟩) hHeld ?_
      · intro w hSw; have c4 := hSw.1; have c5 := hSw.2; go_simp
      (try simp only [Act.put, List.setIfInBounds_toArray, List.set_cons_zero, List.set_cons_succ])
      refine take_at (i := 6) (d := some 25) (v := .pointer (some ⟨b.s, 4, none⟩)) rfl rfl (by kernel_rfl) (by kernel_rfl) (by kernel_rfl) (fun _ _ _ h => h) (Or.inl ⟨by kernel_rfl, ?_⟩) hHeld ?_
      · intro w hSw; have c4 := hSw.1; have c5 := hSw.2; go_simp
      (try simp only [Act.put, List.setIfInBounds_toArray, List.set_cons_zero, List.set_cons_succ])
      refine take_at (i := 7) (d := some 26) (v := .map (some b.t)) rfl rfl (by kernel_rfl) (by kernel_rfl) (by kernel_rfl) (fun _ _ _ h => h) (Or.inl ⟨by kernel_rfl, ?_⟩) hHeld ?_
      · intro w hSw; have c4 := hSw.1; have c5 := hSw.2; go_simp
      (try simp only [Act.put, List.setIfInBounds_toArray, List.set_cons_zero, List.set_cons_succ])
      refine wpAnyH_ready (rs := [8]) (by kernel_rfl) (by simp) ?_
      refine AllReadyH.cons rfl (fun K hK => ?_) AllReadyH.nil
      go_simp
      (go_at_call 38; refine (copy_store HS5.out HJK.out).mono ?_; rintro e w6 ⟨rfl, hS6, hO6⟩; have HS6 := Lib.hid hS6; have HO6 := Lib.hid (HO5.out.trans (hO6.mono (by simp))); clear hS6 hO6 HS5 HO5)
      (try go_wp2_with fail)
      refine hK.out _ _ ⟨HS6.out.c4, HS6.out.c5⟩ (fun hHeld => ?_)
      clear hK K
      (try simp only [Act.put, List.setIfInBounds_toArray, List.set_cons_zero, List.set_cons_succ])
      refine wpAnyH_done (by kernel_rfl) ?_ _
      refine NoPanic.normal ?_
      have c4 := HS6.out.c4
      obtain ⟨w7, hcl0, hmp, htn⟩ := HS6.out.step.clear (s).dk.last.length 0
      have hcl : ∀ ty, (Builtin.clear_ #[65] ty #[.map (some b.t)]).run Tryz.prog w6 = .ok (.tuple #[]) w7 := fun ty => hcl0
      have HM := Lib.hid hmp
      have HT := Lib.hid htn
      clear hcl0 hmp htn
      go_wp2_with fail
      go_ret
      have ho : Only [b.t] w6 w7 := Only.grown HT.out.grown (by simp)
      refine ⟨rfl, ?_, HO6.out.trans (ho.mono (by simp))⟩
      unfold sjoin
      exact HS6.out.setStep ho HM.out (sjoin_ok HOK.out HJK.out)
end Go.Proofs.YtppbiohjhnoagaaGreat
