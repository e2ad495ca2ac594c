/- Texts of the proof. -/
import Derived.Test.YtncmihikpcdgoaaGreatCad
import Derived.IntWalk
import Derived.Laws.Tables
import Derived.Great.FillDense
import Derived.Great.BuildSlice
set_option maxRecDepth 100000
set_option maxHeartbeats 16000000
namespace Go.Proofs.YtncmihikpcdgoaaGreat
section
open Go.RowKit
open Dk (zeros zeros_length)
open Hd (Head rightB pageH)
open Jn (Chg)
def lyK (cs : List Chg) (k : Nat) : List (List UInt8) := ((List.range (Jn.nl cs.length)).map fun j => Jn.lp cs j k) ++ ((cs.take k).map (·.page) ++ List.replicate (cs.length - k) zeros)
theorem lyK_length (cs : List Chg) (k : Nat) (h : k ≤ cs.length) : (lyK cs k).length = Jn.nl cs.length + cs.length := by unfold lyK; simp; omega
theorem lyK_zero (cs : List Chg) : lyK cs 0 = List.replicate (Jn.nl cs.length + cs.length) zeros := by
  unfold lyK
  rw [← List.replicate_append_replicate]
  congr 1
  · rw [List.eq_replicate_iff]
    refine ⟨by simp, fun p hp => ?_⟩
    obtain ⟨j, _, rfl⟩ := List.mem_map.1 hp
    rfl
theorem lyK_all (cs : List Chg) : lyK cs cs.length = Jn.layN cs := by unfold lyK Jn.layN; simp
theorem lyK_num (cs : List Chg) (k j : Nat) (hj : j < Jn.nl cs.length) : (lyK cs k)[j]? = some (Jn.lp cs j k) := by
  unfold lyK
  rw [List.getElem?_append_left (by simp; exact hj), List.getElem?_map, List.getElem?_range hj]; rfl
theorem lyK_step (cs : List Chg) (k : Nat) (x : Chg) (h : cs[k]? = some x) : ((lyK cs k).set (k / 32) (Pg.setN (Jn.lp cs (k / 32) k) (((k % 32 : Nat) : Int) * 2) 2 x.no)).set (Jn.nl cs.length + k) x.page = lyK cs (k + 1) := by
  obtain ⟨hk, he⟩ := List.getElem?_eq_some_iff.1 h
  have hx : cs.getD k Jn.none' = x := by rw [List.getD_eq_getElem?_getD, h]; rfl
  have hj := Jn.nl_lt hk
  unfold lyK
  rw [List.set_append_left _ _ (by simp; exact hj), List.set_append_right _ _ (by simp)]
  congr 1
  · apply List.ext_getElem
    · simp
    · intro i h1 h2
      simp only [List.length_set, List.length_map, List.length_range] at h1
      rw [List.getElem_set]
      simp only [List.getElem_map, List.getElem_range]
      rw [Jn.lp, hx]
      by_cases e : k / 32 = i
      · rw [if_pos e, if_pos e, ← e]
      · rw [if_neg e, if_neg e]
  · have hl : ((cs.take k).map (·.page)).length = k := by simp; omega
    rw [List.take_succ_eq_append_getElem hk, he, List.map_append, List.set_append_right _ _ (by rw [hl]; simp)]
    rw [hl]
    have e : Jn.nl cs.length + k - (List.set ((List.range (Jn.nl cs.length)).map fun j => Jn.lp cs j k) (k / 32) (Pg.setN (Jn.lp cs (k / 32) k) (((k % 32 : Nat) : Int) * 2) 2 x.no)).length - k = 0 := by simp
    rw [e, show cs.length - k = (cs.length - (k + 1)) + 1 by omega, List.replicate_succ, List.set_cons_zero]
    simp
theorem run_make_laid (w : World) (f n : Nat) (hn : f + n ≤ 1000) : (Instr.makeSlice 101 (.int .i64 ((f : Int) + (n : Int))) (.int .i64 ((f : Int) + (n : Int)))).run Tryz.prog w = .ok (.slice (some ⟨w.heap.size, 0, none⟩) (f + n) (f + n)) (w.alloc (.cells (zeroRow (f + n)) 68)) := by
  have h := run_make_pages w (f + n) (by omega)
  rw [show ((f + n : Nat) : Int) = (f : Int) + (n : Int) by omega] at h
  exact h
theorem layout_any {w : World} (A : Option Addr) (c : Nat) (cs : List Chg) (hrow : ChAt w A [] cs) (hp : ∀ x ∈ cs, x.page.length = 64) (h1 : 1 ≤ cs.length) (h2 : cs.length ≤ 512) :
    Calls Tryz.prog 153 #[.slice A cs.length c] w fun e w' => ∃ lb, e = .returned (.slice (some ⟨lb, 0, none⟩) (Jn.nl cs.length + cs.length) (Jn.nl cs.length + cs.length)) ∧ RowsAt w' lb (Jn.layN cs) ∧ w.heap.size ≤ lb ∧ lb < w'.heap.size ∧ Below w.heap.size w w' := by
  have HROW := Lib.hid hrow
  have HP := Lib.hid hp
  have HS := Lib.hid (rowsAt_new w (Jn.nl cs.length + cs.length) 68)
  rw [← lyK_zero] at HS
  clear hrow hp
  obtain ⟨n, hn⟩ : ∃ n, cs.length = n := ⟨_, rfl⟩
  have HN := Lib.hid hn
  rw [hn] at h1 h2 HS ⊢
  clear hn
  have HLS := Lib.hid (lists_any n h1 (by omega))
  have hf0 : Jn.nl n ≤ 17 := by unfold Jn.nl; omega
  have HFL : Hid (∀ k, k < n → k / 32 < Jn.nl n) := Lib.hid (fun k hk => Jn.nl_lt hk)
  have HFN : Hid (Jn.nl cs.length = Jn.nl n) := Lib.hid (by rw [HN.out])
  generalize Jn.nl n = f at HLS HS hf0 HFL HFN ⊢
  have hmk := run_make_laid w f n (by omega)
  have HB1 : Hid (Below w.heap.size w (w.alloc (.cells (zeroRow (f + n)) 68))) := Lib.hid ((Below.refl _ _).alloc (Nat.le_refl _) _)
  have HLT1 : Hid (w.heap.size < (w.alloc (.cells (zeroRow (f + n)) 68)).heap.size) := Lib.hid (by simp)
  go_enter Tryz.func153, Tryz.ntmps153
  go_wp2_with (go_at_call 165; refine (HLS.out _).mono ?_; rintro e w' ⟨rfl, rfl⟩)
  clear hmk HLS
  generalize w.alloc (.cells (zeroRow (f + n)) 68) = w1 at HS HB1 HLT1 ⊢
  generalize hlb : w.heap.size = lb at HS HLT1 ⊢
  have HLB : Hid (w.heap.size ≤ lb) := Lib.hid (by omega)
  clear hlb
  go_loopw [17] (fun i wr => ∃ (k : Nat), k ≤ n ∧ i = .int .i64 k ∧ RowsAt wr lb (lyK cs k) ∧ lb < wr.heap.size ∧ Below w.heap.size w wr) (fun i _ => n - (intOf i).toNat)
  case atStart => exact ⟨0, Nat.zero_le _, rfl, HS.out, HLT1.out, HB1.out⟩
  case round =>
    obtain ⟨k, hk, rfl, htab, hltb, hbel⟩ := hrel
    have HT := Lib.hid htab
    have HL := Lib.hid hbel
    have HLT := Lib.hid hltb
    clear htab hbel hltb HS HB1 HLT1
    by_cases hlt : k < n
    · obtain ⟨x, hpk⟩ : ∃ x, cs[k]? = some x := ⟨_, List.getElem?_eq_getElem (by rw [HN.out]; exact hlt)⟩
      obtain ⟨b, off, rfl, hb, _, hc⟩ := (HROW.out.below HL.out) (by rw [HN.out]; omega)
      have HC := Lib.hid (hc k x hpk)
      have HPL := Lib.hid (HP.out x (List.mem_of_getElem? hpk))
      have HST := Lib.hid (lyK_step cs k x hpk)
      have HTL := Lib.hid (lyK_length cs k (by rw [HN.out]; exact hk))
      have hjf := HFL.out k hlt
      have HT0 : Hid ((lyK cs k)[k / 32]? = some (Jn.lp cs (k / 32) k)) := Lib.hid (lyK_num cs k _ (by rw [HFN.out]; exact hjf))
      have HL0 := Lib.hid (Jn.lp_length cs (k / 32) k)
      have hm32 := Nat.mod_lt k (show 0 < 32 by omega)
      have hq1 : Int.tdiv (k : Int) 32 = ((k / 32 : Nat) : Int) := by rw [Int.tdiv_eq_ediv_of_nonneg (by omega)]; omega
      have hq2 : Int.tmod (k : Int) 32 = ((k % 32 : Nat) : Int) := by rw [Int.tmod_eq_emod_of_nonneg (by omega)]; omega
      rw [HFN.out] at HST HTL
      generalize k / 32 = j at HST HT0 HL0 hq1 hjf
      generalize k % 32 = mm at HST hm32 hq2
      have HSET := Lib.hid (fun (W : World) => set_any (Jn.lp cs j k) ((mm : Int) * 2) 2 x.no W HL0.out (by omega) (by omega))
      have HPS := Lib.hid (Pg.setN_length (Jn.lp cs j k) ((mm : Int) * 2) 2 x.no HL0.out)
      have HQ1 := Lib.hid hq1
      have HQ2 := Lib.hid hq2
      clear hb hc hpk hq1 hq2
      generalize Jn.lp cs j k = p0 at HST HT0 HL0 HSET HPS
      generalize Pg.setN p0 ((mm : Int) * 2) 2 x.no = p1 at HST HSET HPS
      have hzc := zeroChg
      have HNB : Hid (wr.heap.size ≠ lb) := Lib.hid (by have := HLT.out; omega)
      go_wp2_with (first
        | ((with_reducible refine wpList_load_chg HC.out HPL.out rfl (.tmp 20) rfl ?_ ?_); (exact rfl))
        | ((with_reducible refine wpList_store_newchg HPL.out rfl (.tmp 6) (.tmp 21) rfl rfl ?_ chgZero_size ?_); (exact rfl); intro W2 hP hB2 hz2; have HT2 := Lib.hid ((HT.out.below hB2 HLT.out).block (w' := W2.drew) rfl); have HV2 := Lib.hid (RowAt.drew hP); have HL2 := Lib.hid ((HL.out.trans (hB2.mono HL.out.size)).drew); have HLT2 : Hid (lb < W2.drew.heap.size) := Lib.hid (Nat.lt_of_lt_of_le HLT.out hB2.size); have HV0 := Lib.hid (ChVar.no HV2.out); clear hP hB2 hz2))
      clear HT HL HLT HC
      generalize wr.heap.size = B at HV2 HV0 HNB ⊢
      have hq3 : IntKind.i64.wrap ((mm : Int) * 2) = (mm : Int) * 2 := IntWalk.i64_in _ (by omega)
      have hq4 : IntKind.i64.wrap (mm : Int) = (mm : Int) := IntWalk.i64_in _ (by omega)
      have hq0 : IntKind.i64.wrap (j : Int) = (j : Int) := IntWalk.i64_in _ (by omega)
      have hq1 := HQ1.out
      have hq2 := HQ2.out
      have hj0 : (0 : Int) ≤ (j : Int) := by omega
      have hn1 : (j : Int) < (f : Int) + (n : Int) := by omega
      have hn2 : j < f + n := by omega
      refine wp_region_noPanic ?_
      refine wp_region_held_drew (S := fun W => W.cell? ⟨B, 0, none⟩ = some (.int .i64 x.no)) (by kernel_rfl) HV0.out (fun hHeld => ?_)
      generalize W2.drew = W3 at HT2 HL2 HV2 HLT2 hHeld ⊢
      refine take_at (i := 0) (d := some 22) (v := .slice (some ⟨lb, 0, none⟩) (f + n) (f + n)) rfl rfl (by kernel_rfl) (by kernel_rfl) (by kernel_rfl) (fun _ _ _ h => h) (Or.inl ⟨by kernel_rfl, ?_⟩) hHeld ?_
      · intro w hSw; go_simp
      (try simp only [Act.put, puA, puB, puC])
      refine take_at (i := 1) (d := some 23) (v := .int .i64 (k : Int)) rfl rfl (by kernel_rfl) (by kernel_rfl) (by kernel_rfl) (fun _ _ _ h => h) (Or.inl ⟨by kernel_rfl, ?_⟩) hHeld ?_
      · intro w hSw; go_simp
      (try simp only [Act.put, puA, puB, puC])
      refine take_at (i := 2) (d := some 24) (v := .int .i64 (j : Int)) rfl rfl (by kernel_rfl) (by kernel_rfl) (by kernel_rfl) (fun _ _ _ h => h) (Or.inl ⟨by kernel_rfl, ?_⟩) hHeld ?_
      · intro w hSw; go_simp
      (try simp only [Act.put, puA, puB, puC])
      refine take_at (i := 3) (d := some 25) (v := .slice (some ⟨lb, 0, none⟩) (f + n) (f + n)) rfl rfl (by kernel_rfl) (by kernel_rfl) (by kernel_rfl) (fun _ _ _ h => h) (Or.inl ⟨by kernel_rfl, ?_⟩) hHeld ?_
      · intro w hSw; go_simp
      (try simp only [Act.put, puA, puB, puC])
      refine take_at (i := 4) (d := some 26) (v := .int .i64 (k : Int)) rfl rfl (by kernel_rfl) (by kernel_rfl) (by kernel_rfl) (fun _ _ _ h => h) (Or.inl ⟨by kernel_rfl, ?_⟩) hHeld ?_
      · intro w hSw; go_simp
      (try simp only [Act.put, puA, puB, puC])
      refine take_at (i := 5) (d := some 27) (v := .int .i64 (j : Int)) rfl rfl (by kernel_rfl) (by kernel_rfl) (by kernel_rfl) (fun _ _ _ h => h) (Or.inl ⟨by kernel_rfl, ?_⟩) hHeld ?_
      · intro w hSw; go_simp
      (try simp only [Act.put, puA, puB, puC])
      refine take_at (i := 6) (d := some 28) (v := .pointer (some ⟨lb, j * 64, none⟩)) rfl rfl (by kernel_rfl) (by kernel_rfl) (by kernel_rfl) (fun _ _ _ h => h) (Or.inl ⟨by kernel_rfl, ?_⟩) hHeld ?_
      · intro w hSw; go_simp
      (try simp only [Act.put, puA, puB, puC])
      refine take_at (i := 8) (d := some 30) (v := .int .i64 (k : Int)) rfl rfl (by kernel_rfl) (by kernel_rfl) (by kernel_rfl) (fun _ _ _ h => h) (Or.inl ⟨by kernel_rfl, ?_⟩) hHeld ?_
      · intro w hSw; go_simp
      (try simp only [Act.put, puA, puB, puC])
      refine take_at (i := 9) (d := some 31) (v := .int .i64 (mm : Int)) rfl rfl (by kernel_rfl) (by kernel_rfl) (by kernel_rfl) (fun _ _ _ h => h) (Or.inl ⟨by kernel_rfl, ?_⟩) hHeld ?_
      · intro w hSw; go_simp
      (try simp only [Act.put, puA, puB, puC])
      refine take_at (i := 10) (d := some 32) (v := .int .i64 ((mm : Int) * 2)) rfl rfl (by kernel_rfl) (by kernel_rfl) (by kernel_rfl) (fun _ _ _ h => h) (Or.inl ⟨by kernel_rfl, ?_⟩) hHeld ?_
      · intro w hSw; go_simp
      (try simp only [Act.put, puA, puB, puC])
      refine take_at (i := 11) (d := some 33) (v := .pointer (some ⟨B, 0, none⟩)) rfl rfl (by kernel_rfl) (by kernel_rfl) (by kernel_rfl) (fun _ _ _ h => h) (Or.inl ⟨by kernel_rfl, ?_⟩) hHeld ?_
      · intro w hSw; go_simp
      (try simp only [Act.put, puA, puB, puC])
      refine take_at (i := 12) (d := some 34) (v := .int .i64 x.no) rfl rfl (by kernel_rfl) (by kernel_rfl) (by kernel_rfl) (fun _ _ _ h => h) (Or.inl ⟨by kernel_rfl, ?_⟩) hHeld ?_
      · intro w hSw; go_simp
      (try simp only [Act.put, puA, puB, puC])
      refine anyH_load_row (i := 7) HT2.out j HT0.out (by kernel_rfl) rfl (by kernel_rfl) (.tmp 28) rfl rfl (some 29) rfl hHeld ?_
      (try simp only [Act.put, puA, puB, puC])
      refine wpAnyH_ready (rs := [13]) (by kernel_rfl) (by simp) ?_
      refine AllReadyH.cons rfl (fun K hK => ?_) AllReadyH.nil
      go_simp
      (go_at_call 115; refine (HSET.out _).mono ?_; rintro e W4 ⟨rfl, hB4⟩; have HT4 := Lib.hid (HT2.out.below hB4 HLT2.out); have HL4 := Lib.hid (HL2.out.trans (hB4.mono HL2.out.size)); have HV4 := Lib.hid (RowAt.below HV2.out hB4 (RowAt.lt HV2.out)); have HLT4 : Hid (lb < W4.heap.size) := Lib.hid (Nat.lt_of_lt_of_le HLT2.out hB4.size))
      (try go_wp2_with fail)
      refine hK.out _ _ (ChVar.no HV4.out) (fun hHeld => ?_)
      clear hK K
      (try simp only [Act.put, puA, puB, puC])
      refine take_at (i := 14) (d := some 36) (v := .pointer (some ⟨lb, j * 64, none⟩)) rfl rfl (by kernel_rfl) (by kernel_rfl) (by kernel_rfl) (fun _ _ _ h => h) (Or.inl ⟨by kernel_rfl, ?_⟩) hHeld ?_
      · intro w hSw; go_simp
      (try simp only [Act.put, puA, puB, puC])
      refine anyH_store_row (i := 15) HT4.out j (by rw [HTL.out, HN.out]; omega) HPS.out (by kernel_rfl) rfl (by kernel_rfl) (.tmp 36) (.tmp 35) rfl rfl rfl none rfl ((cell_setCells_far (W := W4) lb ⟨B, 0, none⟩ HNB.out _ _ _).trans hHeld) ?_
      (try simp only [Act.put])
      refine wpAnyH_done (by kernel_rfl) ?_ _
      refine NoPanic.normal ?_
      have HT5 := Lib.hid (HT4.out.put j (by rw [HTL.out, HN.out]; omega) p1 HPS.out)
      have HV5 := Lib.hid (RowAt.put_other HV4.out lb (j * 64) (byteVals p1) HNB.out)
      have HL5 : Hid (Below w.heap.size w (W4.setCells lb (j * 64) (byteVals p1))) := Lib.hid (below_setCells _ HLB.out _ _ _ HL4.out)
      have HLT5 : Hid (lb < (W4.setCells lb (j * 64) (byteVals p1)).heap.size) := Lib.hid (by rw [heap_setCells]; exact HLT4.out)
      clear hq0 hq1 hq2 hq3 hq4 HT4 HV4 HL4 HLT4 HT2 HV2 HL2 HLT2 HV0 hHeld hB4
      generalize W4.setCells lb (j * 64) (byteVals p1) = W5 at HT5 HV5 HL5 HLT5 ⊢
      have HVP := Lib.hid (ChVar.page HV5.out)
      have HI : Hid (f + k < ((lyK cs k).set j p1).length) := Lib.hid (by rw [List.length_set, HTL.out, HN.out]; omega)
      have hkn : (f : Int) + (k : Int) < (f : Int) + (n : Int) := by omega
      have hk0 : (0 : Int) ≤ (f : Int) + (k : Int) := by omega
      have hkt : ((f : Int) + (k : Int)).toNat = f + k := by omega
      go_wp2_with (first
        | ((with_reducible refine wpList_load_at HVP.out HPL.out rfl (.tmp 41) rfl ?_ ?_); (exact rfl))
        | ((with_reducible refine wpList_store_row HT5.out (f + k) HI.out HPL.out rfl (.tmp 43) (.tmp 42) rfl ?_ ?_ ?_); (exact rfl); (exact rfl)))
      have HT6 := Lib.hid (HT5.out.put (f + k) HI.out x.page HPL.out)
      rw [HST.out] at HT6
      have HL6 : Hid (Below w.heap.size w (W5.setCells lb ((f + k) * 64) (byteVals x.page))) := Lib.hid (below_setCells _ HLB.out _ _ _ HL5.out)
      have HLT6 : Hid (lb < (W5.setCells lb ((f + k) * 64) (byteVals x.page)).heap.size) := Lib.hid (by rw [heap_setCells]; exact HLT5.out)
      go_roundw
      case rel => exact ⟨k + 1, by omega, by go_num, HT6.out, HLT6.out, HL6.out⟩
      case measure => simp [intOf]; omega
    · obtain rfl : k = n := by omega
      have HA : Hid (lyK cs k = Jn.layN cs) := Lib.hid (by rw [← HN.out]; exact lyK_all cs)
      rw [HA.out] at HT
      go_wp2_with fail
      go_ret
      exact ⟨lb, rfl, HT.out, HLB.out, HLT.out, HL.out⟩
end

section
open Go.RowKit
open Dk (zeros zeros_length)
open Hd (Head rightB pageH)
open Jn (Chg)
def rdN (s : Dk.St) (a n : Nat) : List (List UInt8) := (List.range n).map fun (i : Nat) => Dk.readP s ((a + i : Nat) : Int)
theorem rdN_length (s : Dk.St) (a n : Nat) : (rdN s a n).length = n := by unfold rdN; simp
def gtK (s : Dk.St) (a n k : Nat) : List (List UInt8) := rdN s a k ++ List.replicate (n - k) zeros
theorem gtK_length (s : Dk.St) (a n k : Nat) (h : k ≤ n) : (gtK s a n k).length = n := by unfold gtK; simp [rdN_length]; omega
theorem gtK_step (s : Dk.St) (a n k : Nat) (h : k < n) : (gtK s a n k).set k (Dk.readP s ((a + k : Nat) : Int)) = gtK s a n (k + 1) := by
  unfold gtK
  rw [List.set_append_right _ _ (by rw [rdN_length]; exact Nat.le_refl _), rdN_length, Nat.sub_self, show n - k = (n - (k + 1)) + 1 by omega, List.replicate_succ, List.set_cons_zero]
  have e : rdN s a (k + 1) = rdN s a k ++ [Dk.readP s ((a + k : Nat) : Int)] := by unfold rdN; rw [List.range_succ, List.map_append]; rfl
  rw [e]
  simp
structure GetI (w : World) (d l m : Nat) (s : Dk.St) (r g z b a n k : Nat) (W : World) : Prop where
  disk : DiskAt W d l m s
  reg : RowAt W r (regVals d g z)
  tab : RowsAt W b (gtK s a n k)
  lt : b < W.heap.size
  fresh : w.heap.size ≤ b
  apart : b ≠ r
  old : d < w.heap.size ∧ l < w.heap.size ∧ m < w.heap.size
  below : Below w.heap.size w W
theorem GetI.call {w : World} {d l m : Nat} {s : Dk.St} {r g z b a n k : Nat} {W W' : World} (h : GetI w d l m s r g z b a n k W) (hb : Below W.heap.size W W') : GetI w d l m s r g z b a n k W' :=
  ⟨h.disk.below hb, h.reg.below hb h.reg.lt, h.tab.below hb h.lt, Nat.lt_of_lt_of_le h.lt hb.size, h.fresh, h.apart, h.old, h.below.trans (hb.mono h.below.size)⟩
theorem GetI.put {w : World} {d l m : Nat} {s : Dk.St} {r g z b a n k : Nat} {W : World} (h : GetI w d l m s r g z b a n k W) (hk : k < n) (hp : (Dk.readP s ((a + k : Nat) : Int)).length = 64) : GetI w d l m s r g z b a n (k + 1) (W.setCells b (k * 64) (byteVals (Dk.readP s ((a + k : Nat) : Int)))) := by
  have ho : Only [b] W (W.setCells b (k * 64) (byteVals (Dk.readP s ((a + k : Nat) : Int)))) := Only.setCells b (by simp) _ _ _ (Only.refl _ _)
  have hf := h.fresh
  have hold := h.old
  exact { disk := h.disk.only ho (by simp; omega) (by simp; omega) (by simp; omega)
          reg := h.reg.only ho (by simp; exact Ne.symm h.apart)
          tab := by
            have := h.tab.put k (by rw [gtK_length _ _ _ _ (by omega)]; exact hk) _ hp
            rw [gtK_step _ _ _ _ hk] at this
            exact this
          lt := by rw [heap_setCells]; exact h.lt
          fresh := h.fresh, apart := h.apart, old := h.old
          below := below_setCells _ h.fresh _ _ _ h.below }
theorem getI_start {w : World} {d l m : Nat} {s : Dk.St} (g z a n : Nat) (h : DiskAt w d l m s) (t1 t2 : TypeId) : GetI w d l m s w.heap.size g z (w.heap.size + 1) a n 0 ((w.alloc (.cells (regVals d g z).toArray t1)).alloc (.cells (zeroRow n) t2)) where
  disk := (h.alloc _).alloc _
  reg := (rowAt_new w _ t1).alloc _
  tab := by
    have := rowsAt_new (w.alloc (.cells (regVals d g z).toArray t1)) n t2
    have e : gtK s a n 0 = List.replicate n zeros := by unfold gtK rdN; simp
    rw [e]
    simpa using this
  lt := by simp
  fresh := by omega
  apart := by omega
  old := ⟨h.dlt, h.llt, h.mlt⟩
  below := ((Below.refl _ _).alloc (Nat.le_refl _) _).alloc (by simp) _
theorem getp_any {w : World} {d l m : Nat} {s : Dk.St} (h : DiskAt w d l m s) (g z a n : Nat) (ha : a ≤ 1000) (hn : n ≤ 1000) (hup : s.down = false) (hreg : a + n ≤ s.last.length) :
    Calls Tryz.prog 174 #[regV d g z, .int .i64 (a : Int), .int .i64 (n : Int)] w fun e w' => e = .returned (.tuple #[.slice (some ⟨w.heap.size + 1, 0, none⟩) n n, .int .i64 0]) ∧ RowsAt w' (w.heap.size + 1) (rdN s a n) ∧ Below w.heap.size w w' := by
  have HS := Lib.hid (getI_start g z a n h 170 68)
  have hmk := run_make_pages (w.alloc (.cells (regVals d g z).toArray 170)) n hn
  have HOK := Lib.hid h.ok
  have HRE : Hid (∀ k, k < n → Dk.reachE s ((a + k : Nat) : Int) = 0) := Lib.hid (fun k hk => Dk.reach_mk hup (Dk.has_mk (by omega)))
  clear h hup hreg
  unfold regV
  unfold regVals at HS hmk
  go_enter Tryz.func174, Tryz.ntmps174
  go_wp2_with fail
  clear hmk
  generalize ((w.alloc (.cells _ 170)).alloc (.cells (zeroRow n) 68)) = w1 at HS ⊢
  generalize hrb : w.heap.size = rb at HS ⊢
  have HRB := Lib.hid hrb
  clear hrb
  go_loopw [16] (fun i wr => ∃ k : Nat, k ≤ n ∧ i = .int .i64 k ∧ GetI w d l m s rb g z (rb + 1) a n k wr) (fun i _ => n - (intOf i).toNat)
  case atStart => exact ⟨0, Nat.zero_le _, rfl, HS.out⟩
  case round =>
    obtain ⟨k, hk, rfl, hget⟩ := hrel
    have HI := Lib.hid hget
    clear hget HS
    by_cases hlt : k < n
    · have HX : Hid ((a : Int) + (k : Int) = ((a + k : Nat) : Int)) := Lib.hid (by omega)
      have HPL := Lib.hid (Dk.readP_len HOK.out ((a + k : Nat) : Int))
      have HPUT := Lib.hid (fun (W : World) (hW : GetI w d l m s rb g z (rb + 1) a n k W) => hW.put hlt HPL.out)
      have HRD : Hid (∀ W, GetI w d l m s rb g z (rb + 1) a n k W → Calls Tryz.prog 102 #[.pointer (some ⟨d, 0, none⟩), .int .i64 ((a + k : Nat) : Int)] W fun e w' => e = .returned (.tuple #[pageV (Dk.readP s ((a + k : Nat) : Int)), .int .i64 0]) ∧ Below W.heap.size W w') := Lib.hid (fun W hW => by
        have := read_any hW.disk ((a + k : Nat) : Int)
        rw [HRE.out k hlt] at this
        exact this)
      generalize Dk.readP s ((a + k : Nat) : Int) = p at HPL HRD HPUT
      have hr0 := HI.out.reg.cell 0 _ rfl
      go_wp2_with fail
      rw [HX.out]
      refine (HRD.out _ HI.out).mono ?_
      rintro e W2 ⟨rfl, hB2⟩
      have HI2 := Lib.hid (HI.out.call hB2)
      clear HI hB2 hr0 HRD
      have HTL : Hid (k < (gtK s a n k).length) := Lib.hid (by rw [gtK_length _ _ _ _ hk]; exact hlt)
      go_wp2_with (first
        | ((with_reducible refine wpList_store_new rfl (.tmp 10) (.tmp 26) rfl rfl ?_ ?_ HPL.out ?_); (exact rfl); (exact rfl); intro W3 hP hB3 hz3; have HI3 := Lib.hid (HI2.out.call hB3); have HP3 := Lib.hid hP; clear HI2 hP hB3 hz3; generalize W2.heap.size = B at HP3 ⊢)
        | (with_reducible refine wpList_load_page HP3.out rfl (.tmp 10) rfl rfl ?_)
        | ((with_reducible refine wpList_store_row HI3.out.tab k HTL.out HPL.out rfl (.tmp 34) (.tmp 33) rfl ?_ ?_ ?_); (exact rfl); (exact rfl)))
      have HI4 := Lib.hid (HPUT.out _ HI3.out)
      go_roundw
      case rel => exact ⟨k + 1, by omega, by go_num, HI4.out⟩
      case measure => simp [intOf]; omega
    · obtain rfl : k = n := by omega
      have HE : Hid (gtK s a k k = rdN s a k) := Lib.hid (by unfold gtK; simp)
      have HT := Lib.hid HI.out.tab
      rw [HE.out] at HT
      go_wp2_with fail
      go_ret2
      rw [HRB.out]
      exact ⟨rfl, HT.out, by rw [← HRB.out]; exact HI.out.below⟩
structure ChTab (w : World) (b : Nat) (cs : List Chg) : Prop where
  size : ∀ c ∈ cs, c.page.length = 64
  range : ∀ i c, cs[i]? = some c → w.rangeAt b (i * 65) (chgVals c)
  free : w.there b 0 (cs.length * 65)
theorem ChTab.block {w w' : World} {b : Nat} {cs : List Chg} (h : ChTab w b cs) (hb : w'.heap[b]? = w.heap[b]?) : ChTab w' b cs := ⟨h.size, fun i c hc => rangeAt_block (h.range i c hc) hb, there_block h.free hb⟩
theorem ChTab.below {w w' : World} {b : Nat} {cs : List Chg} (h : ChTab w b cs) (hb : Below w.heap.size w w') (hl : b < w.heap.size) : ChTab w' b cs := h.block (hb.block b hl)
theorem ChTab.thereAt {w : World} {b : Nat} {cs : List Chg} (h : ChTab w b cs) (i : Nat) (hi : i < cs.length) : w.there b (i * 65) 65 := fun j hj => by
  have := h.free (i * 65 + j) (by have : (i + 1) * 65 ≤ cs.length * 65 := Nat.mul_le_mul_right _ hi; omega)
  rwa [Nat.zero_add] at this
theorem ChTab.put {w : World} {b : Nat} {cs : List Chg} (h : ChTab w b cs) (i : Nat) (hi : i < cs.length) (c : Chg) (hp : c.page.length = 64) : ChTab (w.setCells b (i * 65) (chgVals c)) b (cs.set i c) where
  size := fun q hq => by
    rcases List.mem_or_eq_of_mem_set hq with h1 | h1
    · exact h.size q h1
    · rw [h1]; exact hp
  range := fun j q hq => by
    rw [List.getElem?_set] at hq
    by_cases e : i = j
    · subst e
      rw [if_pos rfl, if_pos hi] at hq
      injection hq with hq
      subst hq
      exact World.rangeAt_setCells_same _ _ _ _ (by rw [chgVals_length hp]; exact h.thereAt i hi)
    · rw [if_neg e] at hq
      have hql : q.page.length = 64 := h.size q (List.mem_of_getElem? hq)
      refine World.rangeAt_setCells_apart (h.range j q hq) _ _ _ (Or.inr ?_)
      rw [chgVals_length hp, chgVals_length hql]
      rcases Nat.lt_or_gt_of_ne e with g | g
      · have : (i + 1) * 65 ≤ j * 65 := Nat.mul_le_mul_right _ g; omega
      · have : (j + 1) * 65 ≤ i * 65 := Nat.mul_le_mul_right _ g; omega
  free := by rw [List.length_set]; exact World.there_setCells h.free _ _ _
def zeroTab (n : Nat) : Array Value := madeCells (Value.agg chgZero).cells (n * 65)
theorem info_chg : (Tryz.prog.info? 177).map (fun i => (i.zero, i.size, i.bytes)) = some (some (.agg chgZero), 65, 72) := by kernel_rfl
theorem run_make_chgs (w : World) (n : Nat) (hn : n ≤ 1000) : (Instr.makeSlice 135 (.int .i64 (n : Int)) (.int .i64 (n : Int))).run Tryz.prog w = .ok (.slice (some ⟨w.heap.size, 0, none⟩) n n) (w.alloc (.cells (zeroTab n) 177)) := by
  obtain ⟨i, hi, hz, hs, hb⟩ := info_parts info_chg
  have := run_make (P := Tryz.prog) w 135 177 i (.agg chgZero) Tryz.underlying135 hi hz .i64 .i64 (n : Int) (n : Int) (by omega) (by omega) (by rw [hb]; omega) (by omega)
  rw [hs, Int.toNat_natCast] at this
  exact this
theorem zeroTab_at (n i j : Nat) (hi : i < n) (hj : j < 65) : (zeroTab n)[i * 65 + j]? = chgZero[j]? := by
  have hs : (Value.agg chgZero).cells = chgZero := rfl
  unfold zeroTab
  rw [hs]
  unfold madeCells
  rw [chgZero_size]
  have hlt : i * 65 + j < n * 65 := by have : (i + 1) * 65 ≤ n * 65 := Nat.mul_le_mul_right _ hi; omega
  rw [Array.getElem?_map, Array.getElem?_range, if_pos hlt]
  have hm : (i * 65 + j) % 65 = j := by omega
  simp only [Option.map_some, hm]
  rw [getElem!_def, Array.getElem?_eq_getElem (by rw [chgZero_size]; exact hj)]
theorem zeroTab_size (n : Nat) : (zeroTab n).size = n * 65 := by unfold zeroTab madeCells; simp
theorem chTab_new (w : World) (n : Nat) (t : TypeId) : ChTab (w.alloc (.cells (zeroTab n) t)) w.heap.size (List.replicate n ⟨0, zeros⟩) where
  size := fun c hc => by rw [List.eq_of_mem_replicate hc]; exact zeros_length
  range := fun i c hc => by
    have hi : i < n := by
      have := (List.getElem?_eq_some_iff.1 hc).1
      simpa using this
    have hc' : c = ⟨0, zeros⟩ := List.eq_of_mem_replicate (List.mem_of_getElem? hc)
    subst hc'
    intro j v hv
    have hj : j < 65 := by
      have := (List.getElem?_eq_some_iff.1 hv).1
      rw [chgVals_length zeros_length] at this; exact this
    rw [World.cell?_alloc_mark, zeroTab_at n i j hi hj]
    unfold chgZero
    rw [List.getElem?_toArray]; exact hv
  free := there_new w _ t _ (by rw [zeroTab_size]; simp)
theorem wpList_store_chg {ops : Array Oper} {rest : List Oper} {op : Oper} {a : Act} {Q : Exit → Act → World → Prop} {w : World} {b : Nat} {cs : List Chg} (h : ChTab w b cs) (i : Nat) (hi : i < cs.length) {c : Chg} (hp : c.page.length = 64) (hgd : op.guard = none) (x y : Operand) (ho : op.op = .store 177 x y)
    (hx : a.eval x = .pointer (some ⟨b, i * 65, none⟩)) (hy : a.eval y = chgV c) (hK : wpList Tryz.prog ops Q rest (a.put op.dst undef) (w.setCells b (i * 65) (chgVals c))) : wpList Tryz.prog ops Q (op :: rest) a w :=
  wpList_store_mid hgd 177 x y ho b (i * 65) (chgVals c).toArray hx hy (by rw [List.size_toArray, chgVals_length hp]; exact h.thereAt i hi) (by rw [chg_info, List.size_toArray, chgVals_length hp]) (all_oneCell_toArray (chgVals_one c)) (by simpa using hK)
theorem ChTab.slice {w : World} {b : Nat} {cs : List Chg} (h : ChTab w b cs) (hlt : b < w.heap.size) {L : List Nat} (hb : b ∉ L) : ChAt w (some ⟨b, 0, none⟩) L cs := fun _ =>
  ⟨b, 0, rfl, hlt, hb, fun i c hc => by rw [Nat.zero_add]; exact h.range i c hc⟩
end

section
open Go.RowKit
open Dk (zeros zeros_length)
open Hd (Head rightB pageH)
open Jn (Chg)
theorem chg_built (parts : List (Nat × Value)) : Tryz.prog.built 177 parts = Instr.fill (#[((0 : Nat), (1 : Nat)), (1, 64)][·]?) chgZero parts := by kernel_rfl
theorem fill_two (z : Array Value) (v : Value) (q : Array Value) (hv : v.cells = #[v]) (hq : q.size = 64) (hz : z.size = 65) :
    Instr.fill (#[((0 : Nat), (1 : Nat)), (1, 64)][·]?) z [(0, v), (1, .agg q)] = some (v :: q.toList).toArray := by
  have hc : (Value.agg q).cells = q := rfl
  obtain ⟨g1, g2⟩ := Great.foldl_set 0 [v] 0 z
  obtain ⟨k1, k2⟩ := Great.foldl_set 1 q.toList 0 (([v].zipIdx 0).foldl (fun cs (x : Value × Nat) => cs.setIfInBounds (0 + x.2) x.1) z)
  rw [g1, hz] at k1
  unfold Instr.fill
  show (if v.cells.size ≠ 1 || 0 + v.cells.size > z.size then none else _) = _
  rw [if_neg (by rw [hv, hz]; simp)]
  unfold Instr.fill
  show (if (Value.agg q).cells.size ≠ 64 || 1 + (Value.agg q).cells.size > _ then none else _) = _
  have hsz : (v.cells.zipIdx.foldl (fun cs (x : Value × Nat) => cs.setIfInBounds (0 + x.2) x.1) z).size = 65 := by
    rw [← Array.foldl_toList, Array.toList_zipIdx, hv]
    rw [← hz]; exact g1
  rw [if_neg (by rw [hc, hq, hsz]; simp)]
  unfold Instr.fill
  congr 1
  apply Array.ext_getElem?
  intro k
  have e : (Array.foldl (fun cs (x : Value × Nat) => cs.setIfInBounds (1 + x.2) x.1) (Array.foldl (fun cs (x : Value × Nat) => cs.setIfInBounds (0 + x.2) x.1) z v.cells.zipIdx) (Value.agg q).cells.zipIdx)
      = (q.toList.zipIdx 0).foldl (fun cs (x : Value × Nat) => cs.setIfInBounds (1 + x.2) x.1) (([v].zipIdx 0).foldl (fun cs (x : Value × Nat) => cs.setIfInBounds (0 + x.2) x.1) z) := by
    rw [hc, hv, ← Array.foldl_toList, Array.toList_zipIdx, ← Array.foldl_toList (xs := #[v].zipIdx), Array.toList_zipIdx]
  refine (congrArg (·[k]?) e).trans ?_
  have e2 : ((v :: q.toList).toArray)[k]? = (v :: q.toList)[k]? := by simp
  rw [e2]
  show ((q.toList.zipIdx 0).foldl _ _)[k]? = _
  rw [k2 k, g2 k, g1, hz, Array.length_toList, hq]
  by_cases h0 : k = 0
  · subst h0
    rw [if_neg (by omega), if_pos (by simp)]; rfl
  · obtain ⟨j, rfl⟩ : ∃ j, k = j + 1 := ⟨k - 1, by omega⟩
    rw [List.getElem?_cons_succ]
    by_cases hj : j < 64
    · rw [if_pos (by omega)]
      congr 1
    · rw [if_neg (by omega), if_neg (by simp), Array.getElem?_eq_none (by omega), List.getElem?_eq_none (by rw [Array.length_toList]; omega)]
theorem built_chg (v : Int) (p : List UInt8) (hp : p.length = 64) : Tryz.prog.built 177 [(0, .int .i64 v), (1, pageV p)] = some (chgVals ⟨v, p⟩).toArray := by
  rw [chg_built]
  unfold pageV
  rw [fill_two chgZero _ _ rfl (by rw [List.size_toArray, byteVals_length, hp]) chgZero_size]
  rfl
theorem wpList_buildChg {ops : Array Oper} {rest : List Oper} {o : Oper} {a : Act} {w : World} {Q : Exit → Act → World → Prop} (v : Int) (p : List UInt8) (hp : p.length = 64) (hg : o.guard = none) (x y : Operand) (ho : o.op = .build 177 #[(0, x), (1, y)]) (d : Option Tmp) (hd : o.dst = d) (hx : a.eval x = .int .i64 v) (hy : a.eval y = pageV p)
    (h : wpList Tryz.prog ops Q rest (a.put d (chgV ⟨v, p⟩)) w) : wpList Tryz.prog ops Q (o :: rest) a w :=
  wpList_buildTo hg 177 _ ho d hd (chgVals ⟨v, p⟩).toArray (by
    simp only [List.map_toArray, List.map_cons, List.map_nil, hx, hy]
    exact built_chg v p hp) h
theorem page_type : ∃ i z, Tryz.prog.info? 68 = some i ∧ i.zero = some z ∧ i.size = 64 ∧ i.bytes = 64 ∧ z.cells.size = 64 := by
  have h1 := page_info
  have h2 : (Tryz.prog.info? 68).map (·.bytes) = some 64 := by kernel_rfl
  have h3 : ((Tryz.prog.info? 68).bind (·.zero)).map (·.cells.size) = some 64 := by kernel_rfl
  cases h : Tryz.prog.info? 68 with
  | none => rw [h] at h1; cases h1
  | some i =>
    rw [h] at h1 h2 h3
    cases hz : i.zero with
    | none => simp [hz] at h3
    | some z =>
      simp [hz] at h1 h2 h3
      exact ⟨i, z, rfl, hz, h1, h2, h3⟩
theorem run_buildPage (w : World) (p : List UInt8) (hp : p.length = 64) : (Instr.buildSlice 101 1 #[(0, pageV p)]).run Tryz.prog w = .ok (.slice (some ⟨w.heap.size, 0, none⟩) 1 1) (w.alloc (.cells (byteVals p).toArray 68)) := by
  obtain ⟨i, z, hi, hz, hs, _, _⟩ := page_type
  refine run_buildSlice w 101 68 1 #[(0, pageV p)] _ i z Tryz.underlying101 hi hz (by rw [hs]; omega) (by rw [hs]; omega) ?_
  rw [hs]
  have h := Great.fill_whole (s := 64) (by omega) [pageV p] ((Array.range (1 * 64)).map (z.cells[· % z.cells.size]!)) (fun v hv => by
    rw [List.mem_singleton] at hv
    rw [hv]
    show (byteVals p).toArray.size = 64
    rw [List.size_toArray, byteVals_length, hp]) (by simp)
  refine h.trans ?_
  congr 1
  show ([pageV p].flatMap fun v => v.cells.toList).toArray = _
  simp [pageV, Value.cells]
theorem wp_buildPage {o : Oper} {a : Act} {w : World} {K : Act → World → Prop} {Q : Exit → Act → World → Prop} {p : List UInt8} (hp : p.length = 64) (x : Operand) (ho : o.op = .buildSlice 101 1 #[(0, x)]) (hx : a.eval x = pageV p)
    (h : K (a.put o.dst (.slice (some ⟨w.heap.size, 0, none⟩) 1 1)) (w.alloc (.cells (byteVals p).toArray 68))) : o.wp Tryz.prog a w K Q := by
  have hr := run_buildPage w p hp
  unfold Oper.wp execOp
  simp only [ho, List.map_toArray, List.map_cons, List.map_nil, hx, Sem.run_bind, hr, Result.andThen_ok]
  exact h
theorem wpList_buildPage {ops : Array Oper} {rest : List Oper} {o : Oper} {a : Act} {w : World} {Q : Exit → Act → World → Prop} {p : List UInt8} (hp : p.length = 64) (hgd : o.guard = none) (x : Operand) (ho : o.op = .buildSlice 101 1 #[(0, x)]) (hx : a.eval x = pageV p)
    (h : wpList Tryz.prog ops Q rest (a.put o.dst (.slice (some ⟨w.heap.size, 0, none⟩) 1 1)) (w.alloc (.cells (byteVals p).toArray 68))) : wpList Tryz.prog ops Q (o :: rest) a w :=
  wpList_plain hgd fun _ hK => wp_buildPage hp x ho hx (hK _ _ h)
theorem rows_one (w : World) (p : List UInt8) (hp : p.length = 64) (t : TypeId) : RowsAt (w.alloc (.cells (byteVals p).toArray t)) w.heap.size [p] where
  size := fun q hq => by rw [List.mem_singleton] at hq; rw [hq]; exact hp
  range := fun i q hq => by
    match i, hq with
    | 0, hq =>
      injection hq with hq
      rw [← hq]
      exact (pageAt_new w p t hp).range
  free := (pageAt_new w p t hp).free
theorem anyH_buildPage {ops : Array Oper} {Q : Exit → Act → World → Prop} {md : Region.Mode} {S : World → Prop} {i : Nat} {oi : Oper} {fuel : Nat} {listed : Array Bool} {a : Act} {w : World} {p : List UInt8} (hp : p.length = 64)
    (hr : Region.ready md ops listed = [i]) (hi : ops[i]? = some oi) (hw : Region.wanted oi (yielded ops a.tmps) = true) (x : Operand) (ho : oi.op = .buildSlice 101 1 #[(0, x)]) (hx : a.eval x = pageV p) (d : Option Tmp) (hd : oi.dst = d)
    (hS : S (w.alloc (.cells (byteVals p).toArray 68)))
    (hK : S (w.alloc (.cells (byteVals p).toArray 68)) → wpAnyH Tryz.prog md ops Q S fuel (listed.setIfInBounds i true) (a.put d (.slice (some ⟨w.heap.size, 0, none⟩) 1 1)) (w.alloc (.cells (byteVals p).toArray 68))) : wpAnyH Tryz.prog md ops Q S (fuel + 1) listed a w :=
  anyH_one hr hi hw fun _ hK' => wp_buildPage hp x ho hx (hK' _ _ hS (hd ▸ hK hS))
end

section
open Go.RowKit
open Dk (zeros zeros_length)
open Hd (Head rightB pageH)
open Jn (Chg)
def outK (ps : List (List UInt8)) (f k : Nat) : List Chg := (List.range k).map fun (i : Nat) => ⟨Pg.getN (ps.getD (i / 32) []) (((i % 32 : Nat) : Int) * 2) 2, ps.getD (f + i) []⟩
theorem outK_length (ps : List (List UInt8)) (f k : Nat) : (outK ps f k).length = k := by unfold outK; simp
def otK (ps : List (List UInt8)) (n k : Nat) : List Chg := outK ps (Jn.nl n) k ++ List.replicate (n - k) ⟨0, zeros⟩
theorem otK_length (ps : List (List UInt8)) (n k : Nat) (h : k ≤ n) : (otK ps n k).length = n := by unfold otK; simp [outK_length]; omega
theorem otK_step (ps : List (List UInt8)) (n k : Nat) (h : k < n) : (otK ps n k).set k ⟨Pg.getN (ps.getD (k / 32) []) (((k % 32 : Nat) : Int) * 2) 2, ps.getD (Jn.nl n + k) []⟩ = otK ps n (k + 1) := by
  unfold otK
  rw [List.set_append_right _ _ (by rw [outK_length]; exact Nat.le_refl _), outK_length, Nat.sub_self, show n - k = (n - (k + 1)) + 1 by omega, List.replicate_succ, List.set_cons_zero]
  have e : outK ps (Jn.nl n) (k + 1) = outK ps (Jn.nl n) k ++ [⟨Pg.getN (ps.getD (k / 32) []) (((k % 32 : Nat) : Int) * 2) 2, ps.getD (Jn.nl n + k) []⟩] := by unfold outK; rw [List.range_succ, List.map_append]; rfl
  rw [e]
  simp
theorem laidOut_any {w : World} (lb n : Nat) (ps : List (List UInt8)) (hrow : RowsAt w lb ps) (hlen : ps.length = Jn.nl n + n) (h1 : 1 ≤ n) (h2 : n ≤ 512) :
    Calls Tryz.prog 175 #[.slice (some ⟨lb, 0, none⟩) (Jn.nl n + n) (Jn.nl n + n), .int .i64 (n : Int)] w fun e w' => ∃ cb, e = .returned (.slice (some ⟨cb, 0, none⟩) n n) ∧ ChTab w' cb (Jn.outN ps n) ∧ w.heap.size ≤ cb ∧ cb < w'.heap.size ∧ Below w.heap.size w w' := by
  have HROW := Lib.hid hrow
  have HLL := Lib.hid (hrow.lt (by omega))
  have HLEN := Lib.hid hlen
  have HS := Lib.hid (chTab_new w n 177)
  have e0 : otK ps n 0 = List.replicate n ⟨0, zeros⟩ := by unfold otK outK; simp
  rw [← e0] at HS
  clear hrow hlen e0
  have HLS := Lib.hid (lists_any n h1 (by omega))
  have hf0 : Jn.nl n ≤ 17 := by unfold Jn.nl; omega
  have HFL : Hid (∀ k, k < n → k / 32 < Jn.nl n) := Lib.hid (fun k hk => Jn.nl_lt hk)
  have HSTEP := Lib.hid (fun k hk => otK_step ps n k hk)
  generalize Jn.nl n = f at HLS HLEN hf0 HFL HSTEP ⊢
  have hmk := run_make_chgs w n (by omega)
  have HB1 : Hid (Below w.heap.size w (w.alloc (.cells (zeroTab n) 177))) := Lib.hid ((Below.refl _ _).alloc (Nat.le_refl _) _)
  have HLT1 : Hid (w.heap.size < (w.alloc (.cells (zeroTab n) 177)).heap.size) := Lib.hid (by simp)
  go_enter Tryz.func175, Tryz.ntmps175
  go_wp2_with (go_at_call 165; refine (HLS.out _).mono ?_; rintro e w' ⟨rfl, rfl⟩)
  clear hmk HLS
  generalize w.alloc (.cells (zeroTab n) 177) = w1 at HS HB1 HLT1 ⊢
  generalize hcb : w.heap.size = cb at HS HLT1 ⊢
  have HCB : Hid (w.heap.size ≤ cb) := Lib.hid (by omega)
  clear hcb
  go_loopw [15] (fun i wr => ∃ (k : Nat), k ≤ n ∧ i = .int .i64 k ∧ ChTab wr cb (otK ps n k) ∧ cb < wr.heap.size ∧ Below w.heap.size w wr) (fun i _ => n - (intOf i).toNat)
  case atStart => exact ⟨0, Nat.zero_le _, rfl, HS.out, HLT1.out, HB1.out⟩
  case round =>
    obtain ⟨k, hk, rfl, htab, hltb, hbel⟩ := hrel
    have HT := Lib.hid htab
    have HL := Lib.hid hbel
    have HLT := Lib.hid hltb
    clear htab hbel hltb HS HB1 HLT1
    by_cases hlt : k < n
    · have hjf := HFL.out k hlt
      have hm32 := Nat.mod_lt k (show 0 < 32 by omega)
      have hq1 : (k : Int) / 32 = ((k / 32 : Nat) : Int) := by omega
      have hq2 : (k : Int) % 32 = ((k % 32 : Nat) : Int) := by omega
      have HST := Lib.hid (HSTEP.out k hlt)
      generalize k / 32 = j at HST hq1 hjf
      generalize k % 32 = mm at HST hm32 hq2
      obtain ⟨p0, hp0⟩ : ∃ p, ps[j]? = some p := ⟨_, List.getElem?_eq_getElem (by rw [HLEN.out]; omega)⟩
      obtain ⟨p, hpk⟩ : ∃ p, ps[f + k]? = some p := ⟨_, List.getElem?_eq_getElem (by rw [HLEN.out]; omega)⟩
      have HP0 := Lib.hid hp0
      have HPK := Lib.hid hpk
      have HPL0 := Lib.hid (HROW.out.size p0 (List.mem_of_getElem? hp0))
      have HPLK := Lib.hid (HROW.out.size p (List.mem_of_getElem? hpk))
      rw [List.getD_eq_getElem?_getD, hp0, List.getD_eq_getElem?_getD, hpk] at HST
      simp only [Option.getD_some] at HST
      have HG := Lib.hid (fun (W : World) => get_any p0 ((mm : Int) * 2) 2 W HPL0.out (by omega) (by omega))
      have HRW := Lib.hid (HROW.out.below HL.out HLL.out)
      have HTL : Hid (k < (otK ps n k).length) := Lib.hid (by rw [otK_length _ _ _ hk]; exact hlt)
      clear hp0 hpk
      generalize Pg.getN p0 ((mm : Int) * 2) 2 = v at HST HG
      have hj0 : (0 : Int) ≤ (j : Int) := by omega
      have hn1 : (j : Int) < (f : Int) + (n : Int) := by omega
      have hn2 : j < f + n := by omega
      go_wp2_with (first
        | ((with_reducible refine wpList_load_row HRW.out j HP0.out rfl (.tmp 21) rfl ?_ ?_); (exact rfl)))
      refine (HG.out _).mono ?_
      rintro e W2 ⟨rfl, hB2⟩
      have HRW2 := Lib.hid (HRW.out.below hB2 (Nat.lt_of_lt_of_le HLL.out HL.out.size))
      have HT2 := Lib.hid (HT.out.below hB2 HLT.out)
      have HL2 := Lib.hid (HL.out.trans (hB2.mono HL.out.size))
      have HLT2 : Hid (cb < W2.heap.size) := Lib.hid (Nat.lt_of_lt_of_le HLT.out hB2.size)
      clear HRW HT HL HLT hB2 hq1 hq2
      have hkn : (f : Int) + (k : Int) < (f : Int) + (n : Int) := by omega
      have hk0 : (0 : Int) ≤ (f : Int) + (k : Int) := by omega
      have hkt : ((f : Int) + (k : Int)).toNat = f + k := by omega
      go_wp2_with (first
        | ((with_reducible refine wpList_load_row HRW2.out (f + k) HPK.out rfl (.tmp 34) rfl ?_ ?_); (exact rfl))
        | ((with_reducible refine wpList_buildChg v p HPLK.out rfl (.tmp 29) (.tmp 35) rfl (some 36) rfl ?_ ?_ ?_); (exact rfl); (exact rfl))
        | ((with_reducible refine wpList_store_chg HT2.out k HTL.out (c := ⟨v, p⟩) HPLK.out rfl (.tmp 37) (.tmp 36) rfl ?_ ?_ ?_); (exact rfl); (exact rfl)))
      have HT6 := Lib.hid (HT2.out.put k HTL.out ⟨v, p⟩ HPLK.out)
      rw [HST.out] at HT6
      have HL6 : Hid (Below w.heap.size w (W2.setCells cb (k * 65) (chgVals ⟨v, p⟩))) := Lib.hid (below_setCells _ HCB.out _ _ _ HL2.out)
      have HLT6 : Hid (cb < (W2.setCells cb (k * 65) (chgVals ⟨v, p⟩)).heap.size) := Lib.hid (by rw [heap_setCells]; exact HLT2.out)
      go_roundw
      case rel => exact ⟨k + 1, by omega, by go_num, HT6.out, HLT6.out, HL6.out⟩
      case measure => simp [intOf]; omega
    · obtain rfl : k = n := by omega
      have HA : Hid (otK ps k k = Jn.outN ps k) := Lib.hid (by unfold otK outK Jn.outN; simp)
      rw [HA.out] at HT
      go_wp2_with fail
      go_ret
      exact ⟨cb, rfl, HT.out, HCB.out, HLT.out, HL.out⟩
end

section
open Go.RowKit
open Dk (zeros zeros_length)
open Hd (Head rightB pageH)
open Jn (Chg)
section
variable {ops : Array Oper} {S : World → Prop}
theorem yields_reg {oi : Oper} {a : Act} {b d g z : Nat} (hw : Region.wanted oi (yielded ops a.tmps) = true) (x : Operand) (ho : oi.op = .load 170 x) (hx : a.eval x = .pointer (some ⟨b, 0, none⟩)) (hS : ∀ w, S w → w.rangeAt b 0 (regVals d g z)) :
    YieldsIf Tryz.prog ops S oi (regV d g z) a :=
  yieldsIf_load_mid hw 170 x ho b 0 hx (regVals d g z) _ hS Tryz.underlying170 rfl reg_info
theorem yields_head {t : TypeId} (ht : HeadT t) {oi : Oper} {a : Act} {b : Nat} {h : Head} (hw : Region.wanted oi (yielded ops a.tmps) = true) (x : Operand) (ho : oi.op = .load t x) (hx : a.eval x = .pointer (some ⟨b, 0, none⟩)) (hS : ∀ w, S w → HeadAt w b h) :
    YieldsIf Tryz.prog ops S oi (headV h) a := by
  obtain ⟨d, hd, hr⟩ := ht.row
  exact yieldsIf_load_mid hw t x ho b 0 hx (headVals h) d (fun w k => (hS w k).range) hd hr ht.info
end
structure ChgI (w : World) (d l m : Nat) (s : Dk.St) (B1 a z B2 : Nat) (hd : Head) (W : World) : Prop where
  disk : DiskAt W d l m s
  reg : RowAt W B1 (regVals d a z)
  head : HeadAt W B2 hd
  below : Below w.heap.size w W
theorem ChgI.call {w : World} {d l m : Nat} {s : Dk.St} {B1 a z B2 : Nat} {hd : Head} {W W' : World} (h : ChgI w d l m s B1 a z B2 hd W) (hb : Below W.heap.size W W') : ChgI w d l m s B1 a z B2 hd W' :=
  ⟨h.disk.below hb, h.reg.below hb h.reg.lt, h.head.below hb h.head.lt, h.below.trans (hb.mono h.below.size)⟩
theorem ChgI.drew {w : World} {d l m : Nat} {s : Dk.St} {B1 a z B2 : Nat} {hd : Head} {W : World} (h : ChgI w d l m s B1 a z B2 hd W) : ChgI w d l m s B1 a z B2 hd W.drew := h.call (Below.refl _ _).drew
theorem chgI_start {w : World} {d l m : Nat} {s : Dk.St} (a z : Nat) (hd : Head) (h : DiskAt w d l m s) (t1 t2 : TypeId) : ChgI w d l m s w.heap.size a z (w.heap.size + 1) hd ((w.alloc (.cells (regVals d a z).toArray t1)).alloc (.cells (headVals hd).toArray t2)) where
  disk := (h.alloc _).alloc _
  reg := (rowAt_new w _ t1).alloc _
  head := by
    have := headAt_new (w.alloc (.cells (regVals d a z).toArray t1)) hd t2
    have e : (w.alloc (.cells (regVals d a z).toArray t1)).heap.size = w.heap.size + 1 := by simp
    rw [e] at this
    exact this
  below := ((Below.refl _ _).alloc (Nat.le_refl _) _).alloc (by simp) _
theorem changes_yes {w : World} {d l m : Nat} {s : Dk.St} (h : DiskAt w d l m s) (a z r k : Nat) (hroom : RoomIs z r) (ha : a ≤ 900) (hz : z ≤ 900) (hr : r ≤ 900) (hd : Head) (hk : hd.count = (k : Int)) (h1 : 1 ≤ k) (h2 : k ≤ 512) (h3 : k ≤ r) (hup : s.down = false) (hreg : a + 1 + (Jn.nl k + k) ≤ s.last.length)
    (hsum : Jn.sumN (rdN s (a + 1) (Jn.nl k + k)) = hd.sum) (hoth : ∀ c ∈ Jn.outN (rdN s (a + 1) (Jn.nl k + k)) k, otherB s.last.length a z c.no = true ∧ c.page.length = 64) :
    Calls Tryz.prog 163 #[regV d a z, headV hd] w fun e w' => ∃ cb, e = .returned (.tuple #[.slice (some ⟨cb, 0, none⟩) k k, .int .i64 0]) ∧ ChTab w' cb (Jn.outN (rdN s (a + 1) (Jn.nl k + k)) k) ∧ w.heap.size ≤ cb ∧ cb < w'.heap.size ∧ Below w.heap.size w w' := by
  have HI := Lib.hid (chgI_start a z hd h 170 191)
  have HRM : Hid (∀ w, Calls Tryz.prog 141 #[.int .i64 (z : Int)] w fun e w' => e = .returned (.int .i64 (r : Int)) ∧ w = w') := Lib.hid hroom
  have HLO : Hid (∀ (w : World) (lb : Nat) (ps : List (List UInt8)), RowsAt w lb ps → ps.length = Jn.nl k + k → Calls Tryz.prog 175 #[.slice (some ⟨lb, 0, none⟩) (Jn.nl k + k) (Jn.nl k + k), .int .i64 (k : Int)] w fun e w' => ∃ cb, e = .returned (.slice (some ⟨cb, 0, none⟩) k k) ∧ ChTab w' cb (Jn.outN ps k) ∧ w.heap.size ≤ cb ∧ cb < w'.heap.size ∧ Below w.heap.size w w') := Lib.hid (fun w lb ps hr hl => laidOut_any lb k ps hr hl h1 h2)
  have HLS := Lib.hid (lists_any k h1 (by omega))
  have hf0 : Jn.nl k ≤ 17 := by unfold Jn.nl; omega
  generalize Jn.nl k = f at HLS HLO hf0 hreg hsum hoth ⊢
  have HOK := Lib.hid h.ok
  have HG : Hid (∀ W, ChgI w d l m s w.heap.size a z (w.heap.size + 1) hd W → Calls Tryz.prog 174 #[regV d a z, .int .i64 ((a : Int) + 1), .int .i64 ((f : Int) + (k : Int))] W fun e w' => e = .returned (.tuple #[.slice (some ⟨W.heap.size + 1, 0, none⟩) (f + k) (f + k), .int .i64 0]) ∧ RowsAt w' (W.heap.size + 1) (rdN s (a + 1) (f + k)) ∧ Below W.heap.size W w') := Lib.hid (fun W hW => by
    have := getp_any hW.disk a z (a + 1) (f + k) (by omega) (by omega) hup hreg
    rw [show ((a + 1 : Nat) : Int) = (a : Int) + 1 by omega, show ((f + k : Nat) : Int) = (f : Int) + (k : Int) by omega] at this
    exact this)
  have HPL := Lib.hid (rdN_length s (a + 1) (f + k))
  have HSM : Hid (∀ W lb, RowsAt W lb (rdN s (a + 1) (f + k)) → Calls Tryz.prog 156 #[.slice (some ⟨lb, 0, none⟩) (f + k) (f + k)] W fun e w' => e = .returned (.int .u32 hd.sum) ∧ Below W.heap.size W w') := Lib.hid (fun W lb hT => by
    have hrow := (hT.slice (L := []) (by simp)).row (by rw [rdN_length]; omega) hT.size
    rw [rdN_length] at hrow
    have := sumPages_any _ _ (f + k) _ W hrow (by omega) (by omega)
    rw [hsum] at this
    exact this)
  have HOT := Lib.hid hoth
  have HSZ := Lib.hid h.ok.small
  clear h hroom hup hreg hsum hoth
  generalize hps : rdN s (a + 1) (f + k) = ps at HG HPL HSM HOT ⊢
  clear hps
  obtain ⟨hq, hlv, hct, hsm⟩ := hd
  simp only at hk HSM
  subst hk
  obtain ⟨hd, hhd⟩ : ∃ hd : Head, hd = ⟨hq, hlv, (k : Int), hsm⟩ := ⟨_, rfl⟩
  have e3 : hd.sum = hsm := by rw [hhd]
  have e2 : hd.count = (k : Int) := by rw [hhd]
  rw [← hhd] at HI HG ⊢
  have hhv : headV hd = .agg #[.int .i64 hq, .bool hlv, .int .i64 (k : Int), .int .u32 hsm] := by rw [hhd]; rfl
  have hhw : (headVals hd).toArray = #[.int .i64 hq, .bool hlv, .int .i64 (k : Int), .int .u32 hsm] := by rw [hhd]; rfl
  rw [hhv]
  rw [hhw] at HI
  rw [← e3] at HSM
  clear hhv hhw hhd
  unfold regV
  unfold regVals at HI
  go_enter Tryz.func163, Tryz.ntmps163
  go_wp2_with fail
  generalize ((w.alloc (.cells _ 170)).alloc (.cells _ 191)) = w1 at HI ⊢
  generalize hB1 : w.heap.size = B1 at HI HG ⊢
  generalize hB2 : B1 + 1 = B2 at HI HG ⊢
  clear hB2
  have HB1 := Lib.hid hB1
  clear hB1
  have hq3 : IntKind.i64.wrap ((a : Int) + 1) = (a : Int) + 1 := IntWalk.i64_in _ (by omega)
  have hq4 : IntKind.i64.wrap ((f : Int) + (k : Int)) = (f : Int) + (k : Int) := IntWalk.i64_in _ (by omega)
  have hq5 : ¬ ((r : Int) < (k : Int)) := by omega
  refine wp_region_noPanic ?_
  refine wp_region_held_drew (S := fun W => RowAt W B1 (regVals d a z) ∧ HeadAt W B2 hd) (by kernel_rfl) ⟨HI.out.reg.drew, HI.out.head.drew⟩ (fun hHeld => ?_)
  have HI1 := Lib.hid (HI.out.drew)
  clear HI
  generalize w1.drew = w2 at HI1 hHeld ⊢
  refine take_at (i := 0) (d := some 11) (v := .pointer (some ⟨B2, 2, none⟩)) rfl rfl (by kernel_rfl) (by kernel_rfl) (by kernel_rfl) (fun _ _ _ h => h) (Or.inl ⟨by kernel_rfl, ?_⟩) hHeld ?_
  · intro w hSw; have c1 := hSw.1.cell 1 _ rfl; have c2 := hSw.1.cell 2 _ rfl; have g2 := hSw.2.c2; have g3 := hSw.2.c3; go_simp
  (try simp only [Act.put, puA, puB, puC])
  refine take_at (i := 1) (d := some 12) (v := .int .i64 (k : Int)) rfl rfl (by kernel_rfl) (by kernel_rfl) (by kernel_rfl) (fun _ _ _ h => h) (Or.inl ⟨by kernel_rfl, ?_⟩) hHeld ?_
  · intro w hSw; have c1 := hSw.1.cell 1 _ rfl; have c2 := hSw.1.cell 2 _ rfl; have g2 := hSw.2.c2; have g3 := hSw.2.c3; go_simp
  (try simp only [Act.put, puA, puB, puC])
  refine take_at (i := 2) (d := some 13) (v := .pointer (some ⟨B1, 2, none⟩)) rfl rfl (by kernel_rfl) (by kernel_rfl) (by kernel_rfl) (fun _ _ _ h => h) (Or.inl ⟨by kernel_rfl, ?_⟩) hHeld ?_
  · intro w hSw; have c1 := hSw.1.cell 1 _ rfl; have c2 := hSw.1.cell 2 _ rfl; have g2 := hSw.2.c2; have g3 := hSw.2.c3; go_simp
  (try simp only [Act.put, puA, puB, puC])
  refine take_at (i := 3) (d := some 14) (v := .int .i64 (z : Int)) rfl rfl (by kernel_rfl) (by kernel_rfl) (by kernel_rfl) (fun _ _ _ h => h) (Or.inl ⟨by kernel_rfl, ?_⟩) hHeld ?_
  · intro w hSw; have c1 := hSw.1.cell 1 _ rfl; have c2 := hSw.1.cell 2 _ rfl; have g2 := hSw.2.c2; have g3 := hSw.2.c3; go_simp
  (try simp only [Act.put, puA, puB, puC])
  refine wpAnyH_ready (rs := [4]) (by kernel_rfl) (by simp) ?_
  refine AllReadyH.cons rfl (fun K hK => ?_) AllReadyH.nil
  go_simp
  (go_at_call 141; refine (HRM.out _).mono ?_; rintro e W' ⟨rfl, rfl⟩)
  (try go_wp2_with fail)
  refine hK.out _ _ hHeld (fun hHeld => ?_)
  clear hK K
  (try simp only [Act.put, puA, puB, puC])
  refine take_at (i := 5) (d := some 16) (v := .bool false) rfl rfl (by kernel_rfl) (by kernel_rfl) (by kernel_rfl) (fun _ _ _ h => h) (Or.inl ⟨by kernel_rfl, ?_⟩) hHeld ?_
  · intro w hSw; have c1 := hSw.1.cell 1 _ rfl; have c2 := hSw.1.cell 2 _ rfl; have g2 := hSw.2.c2; have g3 := hSw.2.c3; go_simp
  (try simp only [Act.put, puA, puB, puC])
  refine wpAnyH_done (by kernel_rfl) ?_ _
  refine NoPanic.normal ?_
  go_wp2_with fail
  refine wp_region_noPanic ?_
  refine wp_region_held_drew (S := fun W => RowAt W B1 (regVals d a z) ∧ HeadAt W B2 hd) (by kernel_rfl) ⟨HI1.out.reg.drew, HI1.out.head.drew⟩ (fun hHeld => ?_)
  have HI2 := Lib.hid (HI1.out.drew)
  clear HI1
  generalize w2.drew = w3 at HI2 hHeld ⊢
  refine take_at (i := 0) (d := some 18) (v := regV d a z) rfl rfl (by kernel_rfl) (by kernel_rfl) (by kernel_rfl) (fun _ _ _ h => h) (yields_reg (by kernel_rfl) (.tmp 2) rfl rfl (fun _ hSw => hSw.1.range)) hHeld ?_
  (try simp only [Act.put, puA, puB, puC])
  refine take_at (i := 1) (d := some 19) (v := .pointer (some ⟨B1, 1, none⟩)) rfl rfl (by kernel_rfl) (by kernel_rfl) (by kernel_rfl) (fun _ _ _ h => h) (Or.inl ⟨by kernel_rfl, ?_⟩) hHeld ?_
  · intro w hSw; have c1 := hSw.1.cell 1 _ rfl; have c2 := hSw.1.cell 2 _ rfl; have g2 := hSw.2.c2; have g3 := hSw.2.c3; go_simp
  (try simp only [Act.put, puA, puB, puC])
  refine take_at (i := 2) (d := some 20) (v := .int .i64 (a : Int)) rfl rfl (by kernel_rfl) (by kernel_rfl) (by kernel_rfl) (fun _ _ _ h => h) (Or.inl ⟨by kernel_rfl, ?_⟩) hHeld ?_
  · intro w hSw; have c1 := hSw.1.cell 1 _ rfl; have c2 := hSw.1.cell 2 _ rfl; have g2 := hSw.2.c2; have g3 := hSw.2.c3; go_simp
  (try simp only [Act.put, puA, puB, puC])
  refine take_at (i := 3) (d := some 21) (v := .int .i64 ((a : Int) + 1)) rfl rfl (by kernel_rfl) (by kernel_rfl) (by kernel_rfl) (fun _ _ _ h => h) (Or.inl ⟨by kernel_rfl, ?_⟩) hHeld ?_
  · intro w hSw; have c1 := hSw.1.cell 1 _ rfl; have c2 := hSw.1.cell 2 _ rfl; have g2 := hSw.2.c2; have g3 := hSw.2.c3; go_simp
  (try simp only [Act.put, puA, puB, puC])
  refine take_at (i := 4) (d := some 22) (v := .pointer (some ⟨B2, 2, none⟩)) rfl rfl (by kernel_rfl) (by kernel_rfl) (by kernel_rfl) (fun _ _ _ h => h) (Or.inl ⟨by kernel_rfl, ?_⟩) hHeld ?_
  · intro w hSw; have c1 := hSw.1.cell 1 _ rfl; have c2 := hSw.1.cell 2 _ rfl; have g2 := hSw.2.c2; have g3 := hSw.2.c3; go_simp
  (try simp only [Act.put, puA, puB, puC])
  refine take_at (i := 5) (d := some 23) (v := .int .i64 (k : Int)) rfl rfl (by kernel_rfl) (by kernel_rfl) (by kernel_rfl) (fun _ _ _ h => h) (Or.inl ⟨by kernel_rfl, ?_⟩) hHeld ?_
  · intro w hSw; have c1 := hSw.1.cell 1 _ rfl; have c2 := hSw.1.cell 2 _ rfl; have g2 := hSw.2.c2; have g3 := hSw.2.c3; go_simp
  (try simp only [Act.put, puA, puB, puC])
  refine take_at (i := 7) (d := some 25) (v := .pointer (some ⟨B2, 2, none⟩)) rfl rfl (by kernel_rfl) (by kernel_rfl) (by kernel_rfl) (fun _ _ _ h => h) (Or.inl ⟨by kernel_rfl, ?_⟩) hHeld ?_
  · intro w hSw; have c1 := hSw.1.cell 1 _ rfl; have c2 := hSw.1.cell 2 _ rfl; have g2 := hSw.2.c2; have g3 := hSw.2.c3; go_simp
  (try simp only [Act.put, puA, puB, puC])
  refine take_at (i := 8) (d := some 26) (v := .int .i64 (k : Int)) rfl rfl (by kernel_rfl) (by kernel_rfl) (by kernel_rfl) (fun _ _ _ h => h) (Or.inl ⟨by kernel_rfl, ?_⟩) hHeld ?_
  · intro w hSw; have c1 := hSw.1.cell 1 _ rfl; have c2 := hSw.1.cell 2 _ rfl; have g2 := hSw.2.c2; have g3 := hSw.2.c3; go_simp
  (try simp only [Act.put, puA, puB, puC])
  refine wpAnyH_ready (rs := [6]) (by kernel_rfl) (by simp) ?_
  refine AllReadyH.cons rfl (fun K hK => ?_) AllReadyH.nil
  go_simp
  (go_at_call 165; refine (HLS.out _).mono ?_; rintro e W' ⟨rfl, rfl⟩)
  (try go_wp2_with fail)
  refine hK.out _ _ hHeld (fun hHeld => ?_)
  clear hK K
  (try simp only [Act.put, puA, puB, puC])
  refine take_at (i := 9) (d := some 27) (v := .int .i64 ((f : Int) + (k : Int))) rfl rfl (by kernel_rfl) (by kernel_rfl) (by kernel_rfl) (fun _ _ _ h => h) (Or.inl ⟨by kernel_rfl, ?_⟩) hHeld ?_
  · intro w hSw; have c1 := hSw.1.cell 1 _ rfl; have c2 := hSw.1.cell 2 _ rfl; have g2 := hSw.2.c2; have g3 := hSw.2.c3; go_simp
  (try simp only [Act.put, puA, puB, puC])
  refine wpAnyH_ready (rs := [10]) (by kernel_rfl) (by simp) ?_
  refine AllReadyH.cons rfl (fun K hK => ?_) AllReadyH.nil
  go_simp
  (go_at_call 174; refine (HG.out _ HI2.out).mono ?_; rintro e w4 ⟨rfl, ht4, hB4⟩; have HI4 := Lib.hid (HI2.out.call hB4); have HT4 := Lib.hid ht4; have HLT4 : Hid (w3.heap.size + 1 < w4.heap.size) := Lib.hid (ht4.lt (by rw [HPL.out]; omega)); clear ht4 hB4)
  (try go_wp2_with fail)
  refine hK.out _ _ ⟨HI4.out.reg, HI4.out.head⟩ (fun hHeld => ?_)
  clear hK K
  (try simp only [Act.put, puA, puB, puC])
  generalize w3.heap.size + 1 = lb at HT4 HLT4 ⊢
  refine take_at (i := 11) (d := some 17) (v := .tuple #[.slice (some ⟨lb, 0, none⟩) (f + k) (f + k), .int .i64 0]) rfl rfl (by kernel_rfl) (by kernel_rfl) (by kernel_rfl) (fun _ _ _ h => h) (Or.inl ⟨by kernel_rfl, ?_⟩) hHeld ?_
  · intro w hSw; have c1 := hSw.1.cell 1 _ rfl; have c2 := hSw.1.cell 2 _ rfl; have g2 := hSw.2.c2; have g3 := hSw.2.c3; go_simp
  (try simp only [Act.put, puA, puB, puC])
  refine take_at (i := 12) (d := some 29) (v := .slice (some ⟨lb, 0, none⟩) (f + k) (f + k)) rfl rfl (by kernel_rfl) (by kernel_rfl) (by kernel_rfl) (fun _ _ _ h => h) (Or.inl ⟨by kernel_rfl, ?_⟩) hHeld ?_
  · intro w hSw; have c1 := hSw.1.cell 1 _ rfl; have c2 := hSw.1.cell 2 _ rfl; have g2 := hSw.2.c2; have g3 := hSw.2.c3; go_simp
  (try simp only [Act.put, puA, puB, puC])
  refine take_at (i := 13) (d := some 30) (v := .int .i64 0) rfl rfl (by kernel_rfl) (by kernel_rfl) (by kernel_rfl) (fun _ _ _ h => h) (Or.inl ⟨by kernel_rfl, ?_⟩) hHeld ?_
  · intro w hSw; have c1 := hSw.1.cell 1 _ rfl; have c2 := hSw.1.cell 2 _ rfl; have g2 := hSw.2.c2; have g3 := hSw.2.c3; go_simp
  (try simp only [Act.put, puA, puB, puC])
  refine take_at (i := 14) (d := some 6) (v := .slice (some ⟨lb, 0, none⟩) (f + k) (f + k)) rfl rfl (by kernel_rfl) (by kernel_rfl) (by kernel_rfl) (fun _ _ _ h => h) (Or.inl ⟨by kernel_rfl, ?_⟩) hHeld ?_
  · intro w hSw; have c1 := hSw.1.cell 1 _ rfl; have c2 := hSw.1.cell 2 _ rfl; have g2 := hSw.2.c2; have g3 := hSw.2.c3; go_simp
  (try simp only [Act.put, puA, puB, puC])
  refine take_at (i := 15) (d := some 7) (v := .int .i64 0) rfl rfl (by kernel_rfl) (by kernel_rfl) (by kernel_rfl) (fun _ _ _ h => h) (Or.inl ⟨by kernel_rfl, ?_⟩) hHeld ?_
  · intro w hSw; have c1 := hSw.1.cell 1 _ rfl; have c2 := hSw.1.cell 2 _ rfl; have g2 := hSw.2.c2; have g3 := hSw.2.c3; go_simp
  (try simp only [Act.put, puA, puB, puC])
  refine wpAnyH_done (by kernel_rfl) ?_ _
  refine NoPanic.normal ?_
  go_wp2_with fail
  refine wp_region_noPanic ?_
  refine wp_region_held_drew (S := fun W => RowAt W B1 (regVals d a z) ∧ HeadAt W B2 hd) (by kernel_rfl) ⟨HI4.out.reg.drew, HI4.out.head.drew⟩ (fun hHeld => ?_)
  have HI5 := Lib.hid (HI4.out.drew)
  have HT5 := Lib.hid (HT4.out.block (w' := w4.drew) rfl)
  have HLT5 : Hid (lb < w4.drew.heap.size) := Lib.hid HLT4.out
  clear HI4 HT4 HLT4
  generalize w4.drew = w5 at HI5 HT5 HLT5 hHeld ⊢
  refine take_at (i := 0) (d := some 34) (v := .slice (some ⟨lb, 0, none⟩) (f + k) (f + k)) rfl rfl (by kernel_rfl) (by kernel_rfl) (by kernel_rfl) (fun _ _ _ h => h) (Or.inl ⟨by kernel_rfl, ?_⟩) hHeld ?_
  · intro w hSw; have c1 := hSw.1.cell 1 _ rfl; have c2 := hSw.1.cell 2 _ rfl; have g2 := hSw.2.c2; have g3 := hSw.2.c3; go_simp
  (try simp only [Act.put, puA, puB, puC])
  refine take_at (i := 2) (d := some 36) (v := .pointer (some ⟨B2, 3, none⟩)) rfl rfl (by kernel_rfl) (by kernel_rfl) (by kernel_rfl) (fun _ _ _ h => h) (Or.inl ⟨by kernel_rfl, ?_⟩) hHeld ?_
  · intro w hSw; have c1 := hSw.1.cell 1 _ rfl; have c2 := hSw.1.cell 2 _ rfl; have g2 := hSw.2.c2; have g3 := hSw.2.c3; go_simp
  (try simp only [Act.put, puA, puB, puC])
  refine take_at (i := 3) (d := some 37) (v := .int .u32 hd.sum) rfl rfl (by kernel_rfl) (by kernel_rfl) (by kernel_rfl) (fun _ _ _ h => h) (Or.inl ⟨by kernel_rfl, ?_⟩) hHeld ?_
  · intro w hSw; have c1 := hSw.1.cell 1 _ rfl; have c2 := hSw.1.cell 2 _ rfl; have g2 := hSw.2.c2; have g3 := hSw.2.c3; go_simp
  (try simp only [Act.put, puA, puB, puC])
  refine wpAnyH_ready (rs := [1]) (by kernel_rfl) (by simp) ?_
  refine AllReadyH.cons rfl (fun K hK => ?_) AllReadyH.nil
  go_simp
  (go_at_call 156; refine (HSM.out _ _ HT5.out).mono ?_; rintro e w6 ⟨rfl, hB6⟩; have HI6 := Lib.hid (HI5.out.call hB6); have HT6 := Lib.hid (HT5.out.below hB6 HLT5.out); have HLT6 : Hid (lb < w6.heap.size) := Lib.hid (Nat.lt_of_lt_of_le HLT5.out hB6.size); clear hB6)
  (try go_wp2_with fail)
  refine hK.out _ _ ⟨HI6.out.reg, HI6.out.head⟩ (fun hHeld => ?_)
  clear hK K
  (try simp only [Act.put, puA, puB, puC])
  refine take_at (i := 4) (d := some 38) (v := .bool false) rfl rfl (by kernel_rfl) (by kernel_rfl) (by kernel_rfl) (fun _ _ _ h => h) (Or.inl ⟨by kernel_rfl, ?_⟩) hHeld ?_
  · intro w hSw; have c1 := hSw.1.cell 1 _ rfl; have c2 := hSw.1.cell 2 _ rfl; have g2 := hSw.2.c2; have g3 := hSw.2.c3; go_simp
  (try simp only [Act.put, puA, puB, puC])
  refine wpAnyH_done (by kernel_rfl) ?_ _
  refine NoPanic.normal ?_
  clear hq3 hq4 hq5
  have g2 := HI6.out.head.c2
  rw [e2] at g2
  go_wp2_with fail
  refine (HLO.out _ lb ps HT6.out HPL.out).mono ?_
  rintro e w7 ⟨cb, rfl, hc7, hcb, hlt7, hB7⟩
  have HI7 := Lib.hid (HI6.out.call hB7)
  have HC7 := Lib.hid hc7
  have HCB : Hid (w.heap.size ≤ cb) := Lib.hid (Nat.le_trans HI6.out.below.size hcb)
  have HLT7 := Lib.hid hlt7
  clear hc7 hcb hlt7 hB7 HI6 HT6 HLT6 g2
  have HCL := Lib.hid (Jn.out_length ps k)
  generalize hcs : Jn.outN ps k = cs at HC7 HCL HOT
  have HCS := Lib.hid hcs
  clear hcs
  go_wp2_with fail
  go_loopw [45] (fun i wr => ∃ (x : Nat), x ≤ k ∧ i = .int .i64 x ∧ ChgI w d l m s B1 a z B2 hd wr ∧ ChTab wr cb cs ∧ cb < wr.heap.size) (fun i _ => k - (intOf i).toNat)
  case atStart => exact ⟨0, Nat.zero_le _, rfl, HI7.out, HC7.out, HLT7.out⟩
  case round =>
    obtain ⟨x, hx, rfl, hci, hct, hcl⟩ := hrel
    have HI8 := Lib.hid hci
    have HC8 := Lib.hid hct
    have HL8 := Lib.hid hcl
    clear hci hct hcl HI7 HC7 HLT7
    by_cases hlt : x < k
    · obtain ⟨c, hcx⟩ : ∃ c, cs[x]? = some c := ⟨_, List.getElem?_eq_getElem (by rw [HCL.out]; exact hlt)⟩
      have HCR := Lib.hid (HC8.out.range x c hcx)
      have HCO := Lib.hid (HOT.out c (List.mem_of_getElem? hcx))
      clear hcx
      have hzc := zeroChg
      have HPG : Hid (c.page.length = 64) := Lib.hid HCO.out.2
      go_wp2_with (first
        | ((with_reducible refine wpList_load_chg HCR.out HPG.out rfl (.tmp 47) rfl ?_ ?_); (exact rfl))
        | ((with_reducible refine wpList_store_newchg HPG.out rfl (.tmp 10) (.tmp 48) rfl rfl ?_ chgZero_size ?_); (exact rfl); intro W9 hP hB9 hz9; have HI9 := Lib.hid (HI8.out.call hB9); have HC9 := Lib.hid (HC8.out.below hB9 HL8.out); have HL9 : Hid (cb < W9.heap.size) := Lib.hid (Nat.lt_of_lt_of_le HL8.out hB9.size); have hv0 := ChVar.no hP; clear HI8 HC8 HL8 HCR hP hB9 hz9; generalize wr.heap.size = B at hv0 ⊢)
        | (with_reducible refine wpList_load_reg HI9.out.reg.range rfl (.tmp 2) rfl rfl ?_))
      refine (other_any HI9.out.disk a z (by omega) (by omega) c.no).mono ?_
      rintro e W10 ⟨rfl, hB10⟩
      rw [HCO.out.1]
      have HI10 := Lib.hid (HI9.out.call hB10)
      have HC10 := Lib.hid (HC9.out.below hB10 HL9.out)
      have HL10 : Hid (cb < W10.heap.size) := Lib.hid (Nat.lt_of_lt_of_le HL9.out hB10.size)
      clear HI9 HC9 HL9 hv0 hB10
      go_wp2
      go_roundw
      case rel => exact ⟨x + 1, by omega, by go_num, HI10.out, HC10.out, HL10.out⟩
      case measure => simp [intOf]; omega
    · obtain rfl : x = k := by omega
      go_wp2_with fail
      go_ret2
      rw [← HB1.out]
      exact ⟨cb, rfl, by rw [HCS.out]; exact HC8.out, HCB.out, HL8.out, HI8.out.below⟩
end

section
open Go.RowKit
open Dk (zeros zeros_length)
open Hd (Head rightB pageH)
open Jn (Chg)
theorem lead_any {w : World} {j d l m a z : Nat} {q : Int} {o : Bool} {s : Dk.St} (hj : JAt w j d a z q o) (h : DiskAt w d l m s) (hjd : j ∉ [d, l, m]) (ha : a ≤ 900) (hd : Head) (hr : rightB hd = true) (hs0 : 0 ≤ hd.sum) (hs1 : hd.sum < 4294967296) :
    Calls Tryz.prog 155 #[.pointer (some ⟨j, 0, none⟩), headV hd] w fun e w' => e = .returned (.int .i64 (Jn.runW s [⟨(a : Int), pageH hd⟩]).2) ∧ DiskAt w' d l m (Jn.runW s [⟨(a : Int), pageH hd⟩]).1 ∧ JAt w' j d a z hd.seq o ∧ Only [d, l, m, j] w w' := by
  have HE := Lib.hid (fun (w : World) => encode_yes hd w hr hs0 hs1)
  have HPL := Lib.hid (Hd.pageH_length hd)
  generalize pageH hd = pg at HE HPL ⊢
  have HJ := Lib.hid (hj.below (w' := w.alloc (.cells (headVals hd).toArray 191)) ((Below.refl _ _).alloc (Nat.le_refl _) _))
  have HD := Lib.hid (h.alloc (.cells (headVals hd).toArray 191))
  have HH := Lib.hid (headAt_new w hd 191)
  have HO : Hid (Only [d, l, m, j] w (w.alloc (.cells (headVals hd).toArray 191))) := Lib.hid ((Only.refl _ _).alloc _)
  have HJD := Lib.hid hjd
  have HBJ : Hid (w.heap.size ≠ j) := Lib.hid (by have := hj.lt; omega)
  have HJL := Lib.hid hj.lt
  have HBD : Hid (d < w.heap.size ∧ l < w.heap.size ∧ m < w.heap.size) := Lib.hid ⟨h.dlt, h.llt, h.mlt⟩
  clear hj h hr hs0 hs1 hjd
  obtain ⟨hq, hlv, hct, hsm⟩ := hd
  obtain ⟨hd, hhd⟩ : ∃ hd : Head, hd = ⟨hq, hlv, hct, hsm⟩ := ⟨_, rfl⟩
  have hhv : headV hd = .agg #[.int .i64 hq, .bool hlv, .int .i64 hct, .int .u32 hsm] := by rw [hhd]; rfl
  have hhw : (headVals hd).toArray = #[.int .i64 hq, .bool hlv, .int .i64 hct, .int .u32 hsm] := by rw [hhd]; rfl
  rw [← hhd] at HE HJ HD HH HO ⊢
  rw [hhw] at HJ HD HH HO
  rw [hhv]
  clear hhv hhw hhd
  go_enter Tryz.func155, Tryz.ntmps155
  go_wp2_with (with_reducible refine wpList_load_head headT HH.out rfl (.tmp 3) rfl rfl ?_)
  generalize w.alloc (.cells _ 191) = w1 at HJ HD HH HO ⊢
  have HBO : Hid (∀ x, w.heap.size ≤ x → x ∉ [d, l, m, j]) := Lib.hid (fun x hx => by have := HBD.out; have := HJL.out; simp; omega)
  generalize w.heap.size = B at HH HBJ HBO ⊢
  refine (HE.out _).mono ?_
  rintro e w2 ⟨rfl, hB2⟩
  have HJ2 := Lib.hid (HJ.out.below hB2)
  have HD2 := Lib.hid (HD.out.below hB2)
  have HH2 := Lib.hid (HH.out.below hB2 HH.out.lt)
  have HO2 := Lib.hid (HO.out.ofBelow hB2)
  clear HJ HD HH HO hB2 HE
  go_wp2_with ((with_reducible refine wpList_store_new rfl (.tmp 5) (.tmp 10) rfl rfl ?_ ?_ HPL.out ?_); (exact rfl); (exact rfl); intro w3 hP hB3 hz3; have HJ3 := Lib.hid (HJ2.out.below hB3); have HD3 := Lib.hid (HD2.out.below hB3); have HH3 := Lib.hid (HH2.out.below hB3 HH2.out.lt); have HO3 := Lib.hid (HO2.out.ofBelow hB3); have HP3 := Lib.hid hP; have HC : Hid (w2.heap.size ∉ [d, l, m] ∧ w2.heap.size ≠ j) := Lib.hid (by have := HD2.out.dlt; have := HD2.out.llt; have := HD2.out.mlt; have := HJ2.out.lt; simp; omega); have g0 := HH3.out.c0; have j3 := HJ3.out.c3; have j4 := HJ3.out.f 3 (by omega); clear HJ2 HD2 HH2 HO2 hP hB3 hz3; generalize w2.heap.size = C at HP3 HC ⊢)
  have HJ5 := Lib.hid (HJ3.out.setSeq hd.seq)
  have HD5 := Lib.hid (HD3.out.only (L := [j]) ((Only.refl [j] w3).setCell (p := ⟨j, 3, none⟩) (by simp) (.int .i64 hd.seq)) (fun e => HJD.out (by simp at e ⊢; omega)) (fun e => HJD.out (by simp at e ⊢; omega)) (fun e => HJD.out (by simp at e ⊢; omega)))
  have HP5 := Lib.hid (HP3.out.set_other j 3 (.int .i64 hd.seq) HC.out.2)
  have HO5 : Hid (Only [d, l, m, j] w (w3.setCell ⟨j, 3, none⟩ (.int .i64 hd.seq))) := Lib.hid (HO3.out.setCell (by simp) _)
  have HCD : Hid (C ∉ [d, l, m]) := Lib.hid HC.out.1
  clear HJ3 HD3 HP3 HO3 HH3 g0 j3 j4 HC
  generalize w3.setCell ⟨j, 3, none⟩ (.int .i64 hd.seq) = w5 at HJ5 HD5 HP5 HO5 ⊢
  refine wp_region_noPanic ?_
  refine wp_region_held_drew (S := fun W => JAt W j d a z hd.seq o ∧ PageAt W C pg) (by kernel_rfl) ⟨HJ5.out.below (Below.refl _ _).drew, HP5.out.drew⟩ (fun hHeld => ?_)
  have HJ6 := Lib.hid (HJ5.out.below (Below.refl _ _).drew)
  have HP6 := Lib.hid HP5.out.drew
  have HD6 := Lib.hid HD5.out.drew
  have HO6 := Lib.hid HO5.out.drew
  clear HJ5 HP5 HD5 HO5
  generalize w5.drew = w6 at HJ6 HP6 HD6 HO6 hHeld ⊢
  refine take_at (i := 0) (d := some 19) (v := .pointer (some ⟨j, 0, none⟩)) rfl rfl (by kernel_rfl) (by kernel_rfl) (by kernel_rfl) (fun _ _ _ h => h) (Or.inl ⟨by kernel_rfl, ?_⟩) hHeld ?_
  · intro w hSw; have c1 := hSw.1.c1; go_simp
  (try simp only [Act.put, puA, puB, puC])
  refine take_at (i := 1) (d := some 20) (v := .pointer (some ⟨j, 0, none⟩)) rfl rfl (by kernel_rfl) (by kernel_rfl) (by kernel_rfl) (fun _ _ _ h => h) (Or.inl ⟨by kernel_rfl, ?_⟩) hHeld ?_
  · intro w hSw; have c1 := hSw.1.c1; go_simp
  (try simp only [Act.put, puA, puB, puC])
  refine take_at (i := 2) (d := some 21) (v := .pointer (some ⟨j, 0, none⟩)) rfl rfl (by kernel_rfl) (by kernel_rfl) (by kernel_rfl) (fun _ _ _ h => h) (Or.inl ⟨by kernel_rfl, ?_⟩) hHeld ?_
  · intro w hSw; have c1 := hSw.1.c1; go_simp
  (try simp only [Act.put, puA, puB, puC])
  refine take_at (i := 3) (d := some 22) (v := regV d a z) rfl rfl (by kernel_rfl) (by kernel_rfl) (by kernel_rfl) (fun _ _ _ h => h) (yields_reg (by kernel_rfl) (.tmp 21) rfl rfl (fun _ hSw => hSw.1.reg)) hHeld ?_
  (try simp only [Act.put, puA, puB, puC])
  refine take_at (i := 4) (d := some 23) (v := .pointer (some ⟨j, 0, none⟩)) rfl rfl (by kernel_rfl) (by kernel_rfl) (by kernel_rfl) (fun _ _ _ h => h) (Or.inl ⟨by kernel_rfl, ?_⟩) hHeld ?_
  · intro w hSw; have c1 := hSw.1.c1; go_simp
  (try simp only [Act.put, puA, puB, puC])
  refine take_at (i := 5) (d := some 24) (v := .pointer (some ⟨j, 0, none⟩)) rfl rfl (by kernel_rfl) (by kernel_rfl) (by kernel_rfl) (fun _ _ _ h => h) (Or.inl ⟨by kernel_rfl, ?_⟩) hHeld ?_
  · intro w hSw; have c1 := hSw.1.c1; go_simp
  (try simp only [Act.put, puA, puB, puC])
  refine take_at (i := 6) (d := some 25) (v := .pointer (some ⟨j, 0, none⟩)) rfl rfl (by kernel_rfl) (by kernel_rfl) (by kernel_rfl) (fun _ _ _ h => h) (Or.inl ⟨by kernel_rfl, ?_⟩) hHeld ?_
  · intro w hSw; have c1 := hSw.1.c1; go_simp
  (try simp only [Act.put, puA, puB, puC])
  refine take_at (i := 7) (d := some 26) (v := .pointer (some ⟨j, 1, none⟩)) rfl rfl (by kernel_rfl) (by kernel_rfl) (by kernel_rfl) (fun _ _ _ h => h) (Or.inl ⟨by kernel_rfl, ?_⟩) hHeld ?_
  · intro w hSw; have c1 := hSw.1.c1; go_simp
  (try simp only [Act.put, puA, puB, puC])
  refine take_at (i := 8) (d := some 27) (v := .int .i64 (a : Int)) rfl rfl (by kernel_rfl) (by kernel_rfl) (by kernel_rfl) (fun _ _ _ h => h) (Or.inl ⟨by kernel_rfl, ?_⟩) hHeld ?_
  · intro w hSw; have c1 := hSw.1.c1; go_simp
  (try simp only [Act.put, puA, puB, puC])
  refine take_at (i := 9) (d := some 28) (v := pageV pg) rfl rfl (by kernel_rfl) (by kernel_rfl) (by kernel_rfl) (fun _ _ _ h => h) (yields_page (by kernel_rfl) (.tmp 5) rfl rfl HPL.out (fun _ hSw => hSw.2.range)) hHeld ?_
  (try simp only [Act.put, puA, puB, puC])
  refine anyH_buildPage (i := 10) HPL.out (by kernel_rfl) rfl (by kernel_rfl) (.tmp 28) rfl rfl (some 29) rfl ⟨hHeld.1.below ((Below.refl _ _).alloc (Nat.le_refl _) _), hHeld.2.alloc _⟩ (fun hHeld => ?_)
  (try simp only [Act.put, puA, puB, puC])
  have HD7 := Lib.hid (HD6.out.alloc (.cells (byteVals pg).toArray 68))
  have HO7 : Hid (Only [d, l, m, j] w (w6.alloc (.cells (byteVals pg).toArray 68))) := Lib.hid (HO6.out.alloc _)
  have HR7 : Hid (PgAt (w6.alloc (.cells (byteVals pg).toArray 68)) (some ⟨w6.heap.size, 0, none⟩) [d, l, m] [pg]) := Lib.hid ((rows_one w6 pg HPL.out 68).slice (by have := HD6.out.dlt; have := HD6.out.llt; have := HD6.out.mlt; simp; omega))
  generalize (w6.alloc (.cells (byteVals pg).toArray 68)) = w7 at HD7 HO7 HR7 hHeld ⊢
  have HPT : Hid (Calls Tryz.prog 154 #[regV d a z, .int .i64 (a : Int), .slice (some ⟨w6.heap.size, 0, none⟩) 1 1] w7 fun e w' => e = .returned (.int .i64 (Jn.runW s [⟨(a : Int), pg⟩]).2) ∧ DiskAt w' d l m (Jn.runW s [⟨(a : Int), pg⟩]).1 ∧ Only [d, l, m] w7 w') := Lib.hid (put_any HD7.out a a z _ 1 [pg] HR7.out (fun p hp => by rw [List.mem_singleton] at hp; rw [hp]; exact HPL.out) (by simp) (by omega))
  generalize w6.heap.size = LB at HPT ⊢
  refine wpAnyH_ready (rs := [11]) (by kernel_rfl) (by simp) ?_
  refine AllReadyH.cons rfl (fun K hK => ?_) AllReadyH.nil
  go_simp
  (go_at_call 154; refine HPT.out.mono ?_; rintro e w8 ⟨rfl, hd8, ho8⟩; have HJ8 := Lib.hid (hHeld.1.only ho8 HJD.out); have HP8 := Lib.hid (hHeld.2.block (ho8.block C hHeld.2.lt HCD.out)); have HD8 := Lib.hid hd8; have HO8 : Hid (Only [d, l, m, j] w w8) := Lib.hid (HO7.out.trans (ho8.mono (by simp))); clear hd8 ho8)
  (try go_wp2_with fail)
  refine hK.out _ _ ⟨HJ8.out, HP8.out⟩ (fun hHeld => ?_)
  clear hK K
  (try simp only [Act.put, puA, puB, puC])
  refine take_at (i := 12) (d := some 4) (v := .int .i64 (Jn.runW s [⟨(a : Int), pg⟩]).2) rfl rfl (by kernel_rfl) (by kernel_rfl) (by kernel_rfl) (fun _ _ _ h => h) (Or.inl ⟨by kernel_rfl, ?_⟩) hHeld ?_
  · intro w hSw; have c1 := hSw.1.c1; go_simp
  (try simp only [Act.put, puA, puB, puC])
  refine wpAnyH_done (by kernel_rfl) ?_ _
  refine NoPanic.normal ?_
  go_wp2_with fail
  go_ret
  exact ⟨rfl, HD8.out, HJ8.out, HO8.out⟩
end
end Go.Proofs.YtncmihikpcdgoaaGreat
