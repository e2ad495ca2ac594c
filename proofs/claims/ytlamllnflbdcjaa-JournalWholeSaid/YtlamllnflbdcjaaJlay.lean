/-
  The contract of journal's layout: what lies behind the head.
-/
import Derived.Test.YtlamllnflbdcjaaJtake
import Derived.IntWalk
namespace Go.Proofs.Ytlamllnflbdcjaa
open Go.RowKit
open Dk (zeros zeros_length)
open Hd (Head rightB pageH)
open Jn (Chg)

/-- what is laid so far -/
def lyK (cs : List Chg) (k : Nat) : List (List UInt8) := Jn.lp cs k :: ((cs.take k).map (·.page) ++ List.replicate (cs.length - k) zeros)
theorem lyK_length (cs : List Chg) (k : Nat) (h : k ≤ cs.length) : (lyK cs k).length = 1 + cs.length := by unfold lyK; simp; omega
theorem lyK_zero (cs : List Chg) : lyK cs 0 = List.replicate (1 + cs.length) zeros := by
  unfold lyK
  rw [Nat.add_comm, List.replicate_succ]
  simp [Jn.lp]
theorem lyK_all (cs : List Chg) : lyK cs cs.length = Jn.layN cs := by unfold lyK Jn.layN; simp
theorem lyK_step (cs : List Chg) (k : Nat) (x : Chg) (h : cs[k]? = some x) : ((lyK cs k).set 0 (Pg.setN (Jn.lp cs k) ((k : Int) * 2) 2 x.no)).set (1 + k) x.page = lyK cs (k + 1) := by
  obtain ⟨hk, he⟩ := List.getElem?_eq_some_iff.1 h
  have hx : cs.getD k Jn.none' = x := by rw [List.getD_eq_getElem?_getD, h]; rfl
  have e1 : Jn.lp cs (k + 1) = Pg.setN (Jn.lp cs k) ((k : Int) * 2) 2 x.no := by rw [Jn.lp, hx]
  unfold lyK
  rw [List.set_cons_zero, Nat.add_comm 1 k, List.set_cons_succ, e1]
  congr 1
  rw [List.take_succ_eq_append_getElem hk, he, List.map_append, List.set_append_right _ _ (by simp; omega)]
  have hl : ((cs.take k).map (·.page)).length = k := by simp; omega
  rw [hl, Nat.sub_self, show cs.length - k = (cs.length - (k + 1)) + 1 by omega, List.replicate_succ, List.set_cons_zero]
  simp
theorem lyK_pages (cs : List Chg) (hp : ∀ x ∈ cs, x.page.length = 64) (k : Nat) : ∀ p ∈ lyK cs k, p.length = 64 := by
  intro p h
  unfold lyK at h
  rcases List.mem_cons.1 h with rfl | h
  · exact Jn.lp_length _ _
  · rcases List.mem_append.1 h with h | h
    · obtain ⟨c, hc, rfl⟩ := List.mem_map.1 h
      exact hp c (List.mem_of_mem_take hc)
    · rw [List.eq_of_mem_replicate h]; exact zeros_length

theorem run_make_laid (w : World) (n : Nat) (hn : n ≤ 900) : (Instr.makeSlice 54 (.int .i64 (1 + (n : Int))) (.int .i64 (1 + (n : Int)))).run Try.prog w = .ok (.slice (some ⟨w.heap.size, 0, none⟩) (1 + n) (1 + n)) (w.alloc (.cells (zeroRow (1 + n)) 31)) := by
  have h := run_make_pages w (1 + n) (by omega)
  rw [show ((1 + n : Nat) : Int) = 1 + (n : Int) by omega] at h
  exact h
set_option maxRecDepth 100000 in
set_option maxHeartbeats 4000000 in
theorem layout_any {w : World} (A : Option Addr) (c : Nat) (cs : List Chg) (hrow : ChAt w A [] cs) (hp : ∀ x ∈ cs, x.page.length = 64) (h1 : 1 ≤ cs.length) (h2 : cs.length ≤ 32) :
    Calls Try.prog 29 #[.slice A cs.length c] w fun e w' => ∃ lb, e = .returned (.slice (some ⟨lb, 0, none⟩) (1 + cs.length) (1 + cs.length)) ∧ RowsAt w' lb (Jn.layN cs) ∧ w.heap.size ≤ lb ∧ lb < w'.heap.size ∧ Below w.heap.size w w' := by
  have HROW := Lib.hid hrow
  have HP := Lib.hid hp
  have HS := Lib.hid (rowsAt_new w (1 + cs.length) 31)
  rw [← lyK_zero] at HS
  clear hrow hp
  obtain ⟨n, hn⟩ : ∃ n, cs.length = n := ⟨_, rfl⟩
  have HN := Lib.hid hn
  rw [hn] at h1 h2 HS ⊢
  clear hn
  have HLS := Lib.hid (lists_one n h1 h2)
  have hmk := run_make_laid w n (by omega)
  have HB1 : Hid (Below w.heap.size w (w.alloc (.cells (zeroRow (1 + n)) 31))) := Lib.hid ((Below.refl _ _).alloc (Nat.le_refl _) _)
  have HLT1 : Hid (w.heap.size < (w.alloc (.cells (zeroRow (1 + n)) 31)).heap.size) := Lib.hid (by simp)
  go_enter Try.func29, Try.ntmps29
  go_wp2_with (go_at_call 37; refine (HLS.out _).mono ?_; rintro e w' ⟨rfl, rfl⟩)
  clear hmk HLS
  generalize w.alloc (.cells (zeroRow (1 + n)) 31) = w1 at HS HB1 HLT1 ⊢
  generalize hlb : w.heap.size = lb at HS HLT1 ⊢
  have HLB : Hid (w.heap.size ≤ lb) := Lib.hid (by omega)
  clear hlb
  go_loopw [17] (fun i wr => ∃ (k : Nat), k ≤ n ∧ i = .int .i64 k ∧ RowsAt wr lb (lyK cs k) ∧ lb < wr.heap.size ∧ Below w.heap.size w wr) (fun i _ => n - (intOf i).toNat)
  case atStart => exact ⟨0, Nat.zero_le _, rfl, HS.out, HLT1.out, HB1.out⟩
  case round =>
    obtain ⟨k, hk, rfl, htab, hltb, hbel⟩ := hrel
    have HT := Lib.hid htab
    have HL := Lib.hid hbel
    have HLT := Lib.hid hltb
    clear htab hbel hltb HS HB1 HLT1
    by_cases hlt : k < n
    · obtain ⟨x, hpk⟩ : ∃ x, cs[k]? = some x := ⟨_, List.getElem?_eq_getElem (by rw [HN.out]; exact hlt)⟩
      obtain ⟨b, off, rfl, hb, _, hc⟩ := (HROW.out.below HL.out) (by rw [HN.out]; omega)
      have HC := Lib.hid (hc k x hpk)
      have HPL := Lib.hid (HP.out x (List.mem_of_getElem? hpk))
      have HST := Lib.hid (lyK_step cs k x hpk)
      have HTL := Lib.hid (lyK_length cs k (by rw [HN.out]; exact hk))
      have HT0 : Hid ((lyK cs k)[0]? = some (Jn.lp cs k)) := Lib.hid rfl
      have HL0 := Lib.hid (Jn.lp_length cs k)
      have HSET := Lib.hid (fun (W : World) => set_any (Jn.lp cs k) ((k : Int) * 2) 2 x.no W HL0.out (by omega) (by omega))
      have HPS := Lib.hid (Pg.setN_length (Jn.lp cs k) ((k : Int) * 2) 2 x.no HL0.out)
      clear hb hc hpk
      generalize Jn.lp cs k = p0 at HST HT0 HL0 HSET HPS
      generalize Pg.setN p0 ((k : Int) * 2) 2 x.no = p1 at HST HSET HPS
      have hzc := zeroChg
      have HNB : Hid (wr.heap.size ≠ lb) := Lib.hid (by have := HLT.out; omega)
      go_wp2_with (first
        | ((with_reducible refine wpList_load_chg HC.out HPL.out rfl (.tmp 20) rfl ?_ ?_); (exact rfl))
        | ((with_reducible refine wpList_store_newchg HPL.out rfl (.tmp 6) (.tmp 21) rfl rfl ?_ chgZero_size ?_); (exact rfl); intro W2 hP hB2 hz2; have HT2 := Lib.hid ((HT.out.below hB2 HLT.out).block (w' := W2.drew) rfl); have HV2 := Lib.hid (RowAt.drew hP); have HL2 := Lib.hid ((HL.out.trans (hB2.mono HL.out.size)).drew); have HLT2 : Hid (lb < W2.drew.heap.size) := Lib.hid (Nat.lt_of_lt_of_le HLT.out hB2.size); have HV0 := Lib.hid (ChVar.no HV2.out); clear hP hB2 hz2))
      clear HT HL HLT HC
      generalize wr.heap.size = B at HV2 HV0 HNB ⊢
      have hq1 : Int.tdiv (k : Int) 32 = 0 := by rw [Int.tdiv_eq_ediv_of_nonneg (by omega)]; omega
      have hq2 : Int.tmod (k : Int) 32 = (k : Int) := by rw [Int.tmod_eq_emod_of_nonneg (by omega)]; omega
      have hq3 : IntKind.i64.wrap ((k : Int) * 2) = (k : Int) * 2 := IntWalk.i64_in _ (by omega)
      have hq4 : IntKind.i64.wrap (k : Int) = (k : Int) := IntWalk.i64_in _ (by omega)
      have hq0 : IntKind.i64.wrap 0 = 0 := IntWalk.i64_in _ (by omega)
      have hn1 : (0 : Int) < 1 + (n : Int) := by omega
      have hn2 : 0 < 1 + n := by omega
      refine wp_region_noPanic ?_
      refine wp_region_held_drew (S := fun W => W.cell? ⟨B, 0, none⟩ = some (.int .i64 x.no)) (by kernel_rfl) HV0.out (fun hHeld => ?_)
      generalize W2.drew = W3 at HT2 HL2 HV2 HLT2 hHeld ⊢
      refine take_at (i := 0) (d := some 22) (v := .slice (some ⟨lb, 0, none⟩) (1 + n) (1 + n)) rfl rfl (by kernel_rfl) (by kernel_rfl) (by kernel_rfl) (fun _ _ _ h => h) (Or.inl ⟨by kernel_rfl, ?_⟩) hHeld ?_
      · intro w hSw; go_simp
      (try simp only [Act.put, List.setIfInBounds_toArray, List.set_cons_zero, List.set_cons_succ])
      refine take_at (i := 1) (d := some 23) (v := .int .i64 (k : Int)) rfl rfl (by kernel_rfl) (by kernel_rfl) (by kernel_rfl) (fun _ _ _ h => h) (Or.inl ⟨by kernel_rfl, ?_⟩) hHeld ?_
      · intro w hSw; go_simp
      (try simp only [Act.put, List.setIfInBounds_toArray, List.set_cons_zero, List.set_cons_succ])
      refine take_at (i := 2) (d := some 24) (v := .int .i64 0) rfl rfl (by kernel_rfl) (by kernel_rfl) (by kernel_rfl) (fun _ _ _ h => h) (Or.inl ⟨by kernel_rfl, ?_⟩) hHeld ?_
      · intro w hSw; go_simp
      (try simp only [Act.put, List.setIfInBounds_toArray, List.set_cons_zero, List.set_cons_succ])
      refine take_at (i := 3) (d := some 25) (v := .slice (some ⟨lb, 0, none⟩) (1 + n) (1 + n)) rfl rfl (by kernel_rfl) (by kernel_rfl) (by kernel_rfl) (fun _ _ _ h => h) (Or.inl ⟨by kernel_rfl, ?_⟩) hHeld ?_
      · intro w hSw; go_simp
      (try simp only [Act.put, List.setIfInBounds_toArray, List.set_cons_zero, List.set_cons_succ])
      refine take_at (i := 4) (d := some 26) (v := .int .i64 (k : Int)) rfl rfl (by kernel_rfl) (by kernel_rfl) (by kernel_rfl) (fun _ _ _ h => h) (Or.inl ⟨by kernel_rfl, ?_⟩) hHeld ?_
      · intro w hSw; go_simp
      (try simp only [Act.put, List.setIfInBounds_toArray, List.set_cons_zero, List.set_cons_succ])
      refine take_at (i := 5) (d := some 27) (v := .int .i64 0) rfl rfl (by kernel_rfl) (by kernel_rfl) (by kernel_rfl) (fun _ _ _ h => h) (Or.inl ⟨by kernel_rfl, ?_⟩) hHeld ?_
      · intro w hSw; go_simp
      (try simp only [Act.put, List.setIfInBounds_toArray, List.set_cons_zero, List.set_cons_succ])
      refine take_at (i := 6) (d := some 28) (v := .pointer (some ⟨lb, 0, none⟩)) rfl rfl (by kernel_rfl) (by kernel_rfl) (by kernel_rfl) (fun _ _ _ h => h) (Or.inl ⟨by kernel_rfl, ?_⟩) hHeld ?_
      · intro w hSw; go_simp
      (try simp only [Act.put, List.setIfInBounds_toArray, List.set_cons_zero, List.set_cons_succ])
      refine take_at (i := 8) (d := some 30) (v := .int .i64 (k : Int)) rfl rfl (by kernel_rfl) (by kernel_rfl) (by kernel_rfl) (fun _ _ _ h => h) (Or.inl ⟨by kernel_rfl, ?_⟩) hHeld ?_
      · intro w hSw; go_simp
      (try simp only [Act.put, List.setIfInBounds_toArray, List.set_cons_zero, List.set_cons_succ])
      refine take_at (i := 9) (d := some 31) (v := .int .i64 (k : Int)) rfl rfl (by kernel_rfl) (by kernel_rfl) (by kernel_rfl) (fun _ _ _ h => h) (Or.inl ⟨by kernel_rfl, ?_⟩) hHeld ?_
      · intro w hSw; go_simp
      (try simp only [Act.put, List.setIfInBounds_toArray, List.set_cons_zero, List.set_cons_succ])
      refine take_at (i := 10) (d := some 32) (v := .int .i64 ((k : Int) * 2)) rfl rfl (by kernel_rfl) (by kernel_rfl) (by kernel_rfl) (fun _ _ _ h => h) (Or.inl ⟨by kernel_rfl, ?_⟩) hHeld ?_
      · intro w hSw; go_simp
      (try simp only [Act.put, List.setIfInBounds_toArray, List.set_cons_zero, List.set_cons_succ])
      refine take_at (i := 11) (d := some 33) (v := .pointer (some ⟨B, 0, none⟩)) rfl rfl (by kernel_rfl) (by kernel_rfl) (by kernel_rfl) (fun _ _ _ h => h) (Or.inl ⟨by kernel_rfl, ?_⟩) hHeld ?_
      · intro w hSw; go_simp
      (try simp only [Act.put, List.setIfInBounds_toArray, List.set_cons_zero, List.set_cons_succ])
      refine take_at (i := 12) (d := some 34) (v := .int .i64 x.no) rfl rfl (by kernel_rfl) (by kernel_rfl) (by kernel_rfl) (fun _ _ _ h => h) (Or.inl ⟨by kernel_rfl, ?_⟩) hHeld ?_
      · intro w hSw; go_simp
      (try simp only [Act.put, List.setIfInBounds_toArray, List.set_cons_zero, List.set_cons_succ])
      refine anyH_load_row (i := 7) HT2.out 0 HT0.out (by kernel_rfl) rfl (by kernel_rfl) (.tmp 28) rfl rfl (some 29) rfl hHeld ?_
      (try simp only [Act.put, List.setIfInBounds_toArray, List.set_cons_zero, List.set_cons_succ])
      refine wpAnyH_ready (rs := [13]) (by kernel_rfl) (by simp) ?_
      refine AllReadyH.cons rfl (fun K hK => ?_) AllReadyH.nil
      go_simp
      (go_at_call 41; refine (HSET.out _).mono ?_; rintro e W4 ⟨rfl, hB4⟩; have HT4 := Lib.hid (HT2.out.below hB4 HLT2.out); have HL4 := Lib.hid (HL2.out.trans (hB4.mono HL2.out.size)); have HV4 := Lib.hid (RowAt.below HV2.out hB4 (RowAt.lt HV2.out)); have HLT4 : Hid (lb < W4.heap.size) := Lib.hid (Nat.lt_of_lt_of_le HLT2.out hB4.size))
      (try go_wp2_with fail)
      refine hK.out _ _ (ChVar.no HV4.out) (fun hHeld => ?_)
      clear hK K
      (try simp only [Act.put, List.setIfInBounds_toArray, List.set_cons_zero, List.set_cons_succ])
      refine take_at (i := 14) (d := some 36) (v := .pointer (some ⟨lb, 0, none⟩)) rfl rfl (by kernel_rfl) (by kernel_rfl) (by kernel_rfl) (fun _ _ _ h => h) (Or.inl ⟨by kernel_rfl, ?_⟩) hHeld ?_
      · intro w hSw; go_simp
      (try simp only [Act.put, List.setIfInBounds_toArray, List.set_cons_zero, List.set_cons_succ])
      refine anyH_store_row (i := 15) HT4.out 0 (by rw [HTL.out]; omega) HPS.out (by kernel_rfl) rfl (by kernel_rfl) (.tmp 36) (.tmp 35) rfl rfl rfl none rfl ((cell_setCells_far (W := W4) lb ⟨B, 0, none⟩ HNB.out _ _ _).trans hHeld) ?_
      (try simp only [Act.put])
      refine wpAnyH_done (by kernel_rfl) ?_ _
      refine NoPanic.normal ?_
      have HT5 := Lib.hid (HT4.out.put 0 (by rw [HTL.out]; omega) p1 HPS.out)
      have HV5 := Lib.hid (RowAt.put_other HV4.out lb (0 * 64) (byteVals p1) HNB.out)
      have HL5 : Hid (Below w.heap.size w (W4.setCells lb (0 * 64) (byteVals p1))) := Lib.hid (below_setCells _ HLB.out _ _ _ HL4.out)
      have HLT5 : Hid (lb < (W4.setCells lb (0 * 64) (byteVals p1)).heap.size) := Lib.hid (by rw [heap_setCells]; exact HLT4.out)
      clear hq0 hq1 hq2 hq3 hq4 HT4 HV4 HL4 HLT4 HT2 HV2 HL2 HLT2 HV0 hHeld hB4
      generalize W4.setCells lb (0 * 64) (byteVals p1) = W5 at HT5 HV5 HL5 HLT5 ⊢
      have HVP := Lib.hid (ChVar.page HV5.out)
      have HI : Hid (1 + k < ((lyK cs k).set 0 p1).length) := Lib.hid (by rw [List.length_set, HTL.out, HN.out]; omega)
      have hkn : (1 : Int) + (k : Int) < 1 + (n : Int) := by omega
      have hk0 : (0 : Int) ≤ 1 + (k : Int) := by omega
      have hkt : (1 + (k : Int)).toNat = 1 + k := by omega
      go_wp2_with (first
        | ((with_reducible refine wpList_load_at HVP.out HPL.out rfl (.tmp 41) rfl ?_ ?_); (exact rfl))
        | ((with_reducible refine wpList_store_row HT5.out (1 + k) HI.out HPL.out rfl (.tmp 43) (.tmp 42) rfl ?_ ?_ ?_); (exact rfl); (exact rfl)))
      have HT6 := Lib.hid (HT5.out.put (1 + k) HI.out x.page HPL.out)
      rw [HST.out] at HT6
      have HL6 : Hid (Below w.heap.size w (W5.setCells lb ((1 + k) * 64) (byteVals x.page))) := Lib.hid (below_setCells _ HLB.out _ _ _ HL5.out)
      have HLT6 : Hid (lb < (W5.setCells lb ((1 + k) * 64) (byteVals x.page)).heap.size) := Lib.hid (by rw [heap_setCells]; exact HLT5.out)
      go_roundw
      case rel => exact ⟨k + 1, by omega, by go_num, HT6.out, HLT6.out, HL6.out⟩
      case measure => simp [intOf]; omega
    · obtain rfl : k = n := by omega
      have HA : Hid (lyK cs k = Jn.layN cs) := Lib.hid (by rw [← HN.out]; exact lyK_all cs)
      rw [HA.out] at HT
      go_wp2_with fail
      go_ret
      exact ⟨lb, rfl, HT.out, HLB.out, HLT.out, HL.out⟩
end Go.Proofs.Ytlamllnflbdcjaa
