/-
  The contract of journal's layout: what lies behind the head.
-/
import Derived.Test.YtppbiohjhnoagaaGreatMja
import Derived.IntWalk
import Derived.Laws.Tables
import Derived.Great.FillDense
import Derived.Great.BuildSlice
namespace Go.Proofs.YtppbiohjhnoagaaGreat
open Go.RowKit
open Dk (zeros zeros_length)
open Hd (Head rightB pageH)
open Jn (Chg)

/-- what is laid so far -/
def lyK (cs : List Chg) (k : Nat) : List (List UInt8) := Jn.lp cs k :: ((cs.take k).map (·.page) ++ List.replicate (cs.length - k) zeros)
set_option maxRecDepth 100000 in
theorem lyK_length (cs : List Chg) (k : Nat) (h : k ≤ cs.length) : (lyK cs k).length = 1 + cs.length := by unfold lyK; simp; omega
set_option maxRecDepth 100000 in
theorem lyK_zero (cs : List Chg) : lyK cs 0 = List.replicate (1 + cs.length) zeros := by
  unfold lyK
  rw [Nat.add_comm, List.replicate_succ]
  simp [Jn.lp]
set_option maxRecDepth 100000 in
theorem lyK_all (cs : List Chg) : lyK cs cs.length = Jn.layN cs := by unfold lyK Jn.layN; simp
set_option maxRecDepth 100000 in
theorem lyK_step (cs : List Chg) (k : Nat) (x : Chg) (h : cs[k]? = some x) : ((lyK cs k).set 0 (Pg.setN (Jn.lp cs k) ((k : Int) * 2) 2 x.no)).set (1 + k) x.page = lyK cs (k + 1) := by
  obtain ⟨hk, he⟩ := List.getElem?_eq_some_iff.1 h
  have hx : cs.getD k Jn.none' = x := by rw [List.getD_eq_getElem?_getD, h]; rfl
  have e1 : Jn.lp cs (k + 1) = Pg.setN (Jn.lp cs k) ((k : Int) * 2) 2 x.no := by rw [Jn.lp, hx]
  unfold lyK
  rw [List.set_cons_zero, Nat.add_comm 1 k, List.set_cons_succ, e1]
  congr 1
  rw [List.take_succ_eq_append_getElem hk, he, List.map_append, List.set_append_right _ _ (by simp; omega)]
  have hl : ((cs.take k).map (·.page)).length = k := by simp; omega
  rw [hl, Nat.sub_self, show cs.length - k = (cs.length - (k + 1)) + 1 by omega, List.replicate_succ, List.set_cons_zero]
  simp
set_option maxRecDepth 100000 in
theorem lyK_pages (cs : List Chg) (hp : ∀ x ∈ cs, x.page.length = 64) (k : Nat) : ∀ p ∈ lyK cs k, p.length = 64 := by
  intro p h
  unfold lyK at h
  rcases List.mem_cons.1 h with rfl | h
  · exact Jn.lp_length _ _
  · rcases List.mem_append.1 h with h | h
    · obtain ⟨c, hc, rfl⟩ := List.mem_map.1 h
      exact hp c (List.mem_of_mem_take hc)
    · rw [List.eq_of_mem_replicate h]; exact zeros_length

set_option maxRecDepth 100000 in
theorem run_make_laid (w : World) (n : Nat) (hn : n ≤ 900) : (Instr.makeSlice 60 (.int .i64 (1 + (n : Int))) (.int .i64 (1 + (n : Int)))).run Tryz.prog w = .ok (.slice (some ⟨w.heap.size, 0, none⟩) (1 + n) (1 + n)) (w.alloc (.cells (zeroRow (1 + n)) 38)) := by
  have h := run_make_pages w (1 + n) (by omega)
  rw [show ((1 + n : Nat) : Int) = 1 + (n : Int) by omega] at h
  exact h
set_option maxRecDepth 100000 in
set_option maxHeartbeats 4000000 in
theorem layout_any {w : World} (A : Option Addr) (c : Nat) (cs : List Chg) (hrow : ChAt w A [] cs) (hp : ∀ x ∈ cs, x.page.length = 64) (h1 : 1 ≤ cs.length) (h2 : cs.length ≤ 32) :
    Calls Tryz.prog 77 #[.slice A cs.length c] w fun e w' => ∃ lb, e = .returned (.slice (some ⟨lb, 0, none⟩) (1 + cs.length) (1 + cs.length)) ∧ RowsAt w' lb (Jn.layN cs) ∧ w.heap.size ≤ lb ∧ lb < w'.heap.size ∧ Below w.heap.size w w' := by
  have HROW := Lib.hid hrow
  have HP := Lib.hid hp
  have HS := Lib.hid (rowsAt_new w (1 + cs.length) 38)
  rw [← lyK_zero] at HS
  clear hrow hp
  obtain ⟨n, hn⟩ : ∃ n, cs.length = n := ⟨_, rfl⟩
  have HN := Lib.hid hn
  rw [hn] at h1 h2 HS ⊢
  clear hn
  have HLS := Lib.hid (lists_one n h1 h2)
  have hmk := run_make_laid w n (by omega)
  have HB1 : Hid (Below w.heap.size w (w.alloc (.cells (zeroRow (1 + n)) 38))) := Lib.hid ((Below.refl _ _).alloc (Nat.le_refl _) _)
  have HLT1 : Hid (w.heap.size < (w.alloc (.cells (zeroRow (1 + n)) 38)).heap.size) := Lib.hid (by simp)
  go_enter Tryz.func77, Tryz.ntmps77
  go_wp2_with (go_at_call 88; refine (HLS.out _).mono ?_; rintro e w' ⟨rfl, rfl⟩)
  clear hmk HLS
  generalize w.alloc (.cells (zeroRow (1 + n)) 38) = w1 at HS HB1 HLT1 ⊢
  generalize hlb : w.heap.size = lb at HS HLT1 ⊢
  have HLB : Hid (w.heap.size ≤ lb) := Lib.hid (by omega)
  clear hlb
  go_loopw [17] (fun i wr => ∃ (k : Nat), k ≤ n ∧ i = .int .i64 k ∧ RowsAt wr lb (lyK cs k) ∧ lb < wr.heap.size ∧ Below w.heap.size w wr) (fun i _ => n - (intOf i).toNat)
  case atStart => exact ⟨0, Nat.zero_le _, rfl, HS.out, HLT1.out, HB1.out⟩
  case round =>
    obtain ⟨k, hk, rfl, htab, hltb, hbel⟩ := hrel
    have HT := Lib.hid htab
    have HL := Lib.hid hbel
    have HLT := Lib.hid hltb
    clear htab hbel hltb HS HB1 HLT1
    by_cases hlt : k < n
    · obtain ⟨x, hpk⟩ : ∃ x, cs[k]? = some x := ⟨_, List.getElem?_eq_getElem (by rw [HN.out]; exact hlt)⟩
      obtain ⟨b, off, rfl, hb, _, hc⟩ := (HROW.out.below HL.out) (by rw [HN.out]; omega)
      have HC := Lib.hid (hc k x hpk)
      have HPL := Lib.hid (HP.out x (List.mem_of_getElem? hpk))
      have HST := Lib.hid (lyK_step cs k x hpk)
      have HTL := Lib.hid (lyK_length cs k (by rw [HN.out]; exact hk))
      have HT0 : Hid ((lyK cs k)[0]? = some (Jn.lp cs k)) := Lib.hid rfl
      have HL0 := Lib.hid (Jn.lp_length cs k)
      have HSET := Lib.hid (fun (W : World) => set_any (Jn.lp cs k) ((k : Int) * 2) 2 x.no W HL0.out (by omega) (by omega))
      have HPS := Lib.hid (Pg.setN_length (Jn.lp cs k) ((k : Int) * 2) 2 x.no HL0.out)
      clear hb hc hpk
      generalize Jn.lp cs k = p0 at HST HT0 HL0 HSET HPS
      generalize Pg.setN p0 ((k : Int) * 2) 2 x.no = p1 at HST HSET HPS
      have hzc := zeroChg
      have HNB : Hid (wr.heap.size ≠ lb) := Lib.hid (by have := HLT.out; omega)
      go_wp2_with (first
        | ((with_reducible refine wpList_load_chg HC.out HPL.out rfl (.tmp 20) rfl ?_ ?_); (exact rfl))
        | ((with_reducible refine wpList_store_newchg HPL.out rfl (.tmp 6) (.tmp 21) rfl rfl ?_ chgZero_size ?_); (exact rfl); intro W2 hP hB2 hz2; have HT2 := Lib.hid ((HT.out.below hB2 HLT.out).block (w' := W2.drew) rfl); have HV2 := Lib.hid (RowAt.drew hP); have HL2 := Lib.hid ((HL.out.trans (hB2.mono HL.out.size)).drew); have HLT2 : Hid (lb < W2.drew.heap.size) := Lib.hid (Nat.lt_of_lt_of_le HLT.out hB2.size); have HV0 := Lib.hid (ChVar.no HV2.out); clear hP hB2 hz2))
      clear HT HL HLT HC
      generalize wr.heap.size = B at HV2 HV0 HNB ⊢
      have hq1 : Int.tdiv (k : Int) 32 = 0 := by rw [Int.tdiv_eq_ediv_of_nonneg (by omega)]; omega
      have hq2 : Int.tmod (k : Int) 32 = (k : Int) := by rw [Int.tmod_eq_emod_of_nonneg (by omega)]; omega
      have hq3 : IntKind.i64.wrap ((k : Int) * 2) = (k : Int) * 2 := IntWalk.i64_in _ (by omega)
      have hq4 : IntKind.i64.wrap (k : Int) = (k : Int) := IntWalk.i64_in _ (by omega)
      have hq0 : IntKind.i64.wrap 0 = 0 := IntWalk.i64_in _ (by omega)
      have hn1 : (0 : Int) < 1 + (n : Int) := by omega
      have hn2 : 0 < 1 + n := by omega
      refine wp_region_noPanic ?_
      refine wp_region_held_drew (S := fun W => W.cell? ⟨B, 0, none⟩ = some (.int .i64 x.no)) (by kernel_rfl) HV0.out (fun hHeld => ?_)
      generalize W2.drew = W3 at HT2 HL2 HV2 HLT2 hHeld ⊢
      refine take_at (i := 0) (d := some 22) (v := .slice (some ⟨lb, 0, none⟩) (1 + n) (1 + n)) rfl rfl (by kernel_rfl) (by kernel_rfl) (by kernel_rfl) (fun _ _ _ h => h) (Or.inl ⟨by kernel_rfl, ?_⟩) hHeld ?_
      · intro w hSw; go_simp
      (try simp only [Act.put, List.setIfInBounds_toArray, List.set_cons_zero, List.set_cons_succ])
      refine take_at (i := 1) (d := some 23) (v := .int .i64 (k : Int)) rfl rfl (by kernel_rfl) (by kernel_rfl) (by kernel_rfl) (fun _ _ _ h => h) (Or.inl ⟨by kernel_rfl, ?_⟩) hHeld ?_
      · intro w hSw; go_simp
      (try simp only [Act.put, List.setIfInBounds_toArray, List.set_cons_zero, List.set_cons_succ])
      refine take_at (i := 2) (d := some 24) (v := .int .i64 0) rfl rfl (by kernel_rfl) (by kernel_rfl) (by kernel_rfl) (fun _ _ _ h => h) (Or.inl ⟨by kernel_rfl, ?_⟩) hHeld ?_
      · intro w hSw; go_simp
      (try simp only [Act.put, List.setIfInBounds_toArray, List.set_cons_zero, List.set_cons_succ])
      refine take_at (i := 3) (d := some 25) (v := .slice (some ⟨lb, 0, none⟩) (1 + n) (1 + n)) rfl rfl (by kernel_rfl) (by kernel_rfl) (by kernel_rfl) (fun _ _ _ h => h) (Or.inl ⟨by kernel_rfl, ?_⟩) hHeld ?_
      · intro w hSw; go_simp
      (try simp only [Act.put, List.setIfInBounds_toArray, List.set_cons_zero, List.set_cons_succ])
      refine take_at (i := 4) (d := some 26) (v := .int .i64 (k : Int)) rfl rfl (by kernel_rfl) (by kernel_rfl) (by kernel_rfl) (fun _ _ _ h => h) (Or.inl ⟨by kernel_rfl, ?_⟩) hHeld ?_
      · intro w hSw; go_simp
      (try simp only [Act.put, List.setIfInBounds_toArray, List.set_cons_zero, List.set_cons_succ])
      refine take_at (i := 5) (d := some 27) (v := .int .i64 0) rfl rfl (by kernel_rfl) (by kernel_rfl) (by kernel_rfl) (fun _ _ _ h => h) (Or.inl ⟨by kernel_rfl, ?_⟩) hHeld ?_
      · intro w hSw; go_simp
      (try simp only [Act.put, List.setIfInBounds_toArray, List.set_cons_zero, List.set_cons_succ])
      refine take_at (i := 6) (d := some 28) (v := .pointer (some ⟨lb, 0, none⟩)) rfl rfl (by kernel_rfl) (by kernel_rfl) (by kernel_rfl) (fun _ _ _ h => h) (Or.inl ⟨by kernel_rfl, ?_⟩) hHeld ?_
      · intro w hSw; go_simp
      (try simp only [Act.put, List.setIfInBounds_toArray, List.set_cons_zero, List.set_cons_succ])
      refine take_at (i := 8) (d := some 30) (v := .int .i64 (k : Int)) rfl rfl (by kernel_rfl) (by kernel_rfl) (by kernel_rfl) (fun _ _ _ h => h) (Or.inl ⟨by kernel_rfl, ?_⟩) hHeld ?_
      · intro w hSw; go_simp
      (try simp only [Act.put, List.setIfInBounds_toArray, List.set_cons_zero, List.set_cons_succ])
      refine take_at (i := 9) (d := some 31) (v := .int .i64 (k : Int)) rfl rfl (by kernel_rfl) (by kernel_rfl) (by kernel_rfl) (fun _ _ _ h => h) (Or.inl ⟨by kernel_rfl, ?_⟩) hHeld ?_
      · intro w hSw; go_simp
      (try simp only [Act.put, List.setIfInBounds_toArray, List.set_cons_zero, List.set_cons_succ])
      refine take_at (i := 10) (d := some 32) (v := .int .i64 ((k : Int) * 2)) rfl rfl (by kernel_rfl) (by kernel_rfl) (by kernel_rfl) (fun _ _ _ h => h) (Or.inl ⟨by kernel_rfl, ?_⟩) hHeld ?_
      · intro w hSw; go_simp
      (try simp only [Act.put, List.setIfInBounds_toArray, List.set_cons_zero, List.set_cons_succ])
      refine take_at (i := 11) (d := some 33) (v := .pointer (some ⟨B, 0, none⟩)) rfl rfl (by kernel_rfl) (by kernel_rfl) (by kernel_rfl) (fun _ _ _ h => h) (Or.inl ⟨by kernel_rfl, ?_⟩) hHeld ?_
      · intro w hSw; go_simp
      (try simp only [Act.put, List.setIfInBounds_toArray, List.set_cons_zero, List.set_cons_succ])
      refine take_at (i := 12) (d := some 34) (v := .int .i64 x.no) rfl rfl (by kernel_rfl) (by kernel_rfl) (by kernel_rfl) (fun _ _ _ h => h) (Or.inl ⟨by kernel_rfl, ?_⟩) hHeld ?_
      · intro w hSw; go_simp
      (try simp only [Act.put, List.setIfInBounds_toArray, List.set_cons_zero, List.set_cons_succ])
      refine anyH_load_row (i := 7) HT2.out 0 HT0.out (by kernel_rfl) rfl (by kernel_rfl) (.tmp 28) rfl rfl (some 29) rfl hHeld ?_
      (try simp only [Act.put, List.setIfInBounds_toArray, List.set_cons_zero, List.set_cons_succ])
      refine wpAnyH_ready (rs := [13]) (by kernel_rfl) (by simp) ?_
      refine AllReadyH.cons rfl (fun K hK => ?_) AllReadyH.nil
      go_simp
      (go_at_call 93; refine (HSET.out _).mono ?_; rintro e W4 ⟨rfl, hB4⟩; have HT4 := Lib.hid (HT2.out.below hB4 HLT2.out); have HL4 := Lib.hid (HL2.out.trans (hB4.mono HL2.out.size)); have HV4 := Lib.hid (RowAt.below HV2.out hB4 (RowAt.lt HV2.out)); have HLT4 : Hid (lb < W4.heap.size) := Lib.hid (Nat.lt_of_lt_of_le HLT2.out hB4.size))
      (try go_wp2_with fail)
      refine hK.out _ _ (ChVar.no HV4.out) (fun hHeld => ?_)
      clear hK K
      (try simp only [Act.put, List.setIfInBounds_toArray, List.set_cons_zero, List.set_cons_succ])
      refine take_at (i := 14) (d := some 36) (v := .pointer (some ⟨lb, 0, none⟩)) rfl rfl (by kernel_rfl) (by kernel_rfl) (by kernel_rfl) (fun _ _ _ h => h) (Or.inl ⟨by kernel_rfl, ?_⟩) hHeld ?_
      · intro w hSw; go_simp
      (try simp only [Act.put, List.setIfInBounds_toArray, List.set_cons_zero, List.set_cons_succ])
      refine anyH_store_row (i := 15) HT4.out 0 (by rw [HTL.out]; omega) HPS.out (by kernel_rfl) rfl (by kernel_rfl) (.tmp 36) (.tmp 35) rfl rfl rfl none rfl ((cell_setCells_far (W := W4) lb ⟨B, 0, none⟩ HNB.out _ _ _).trans hHeld) ?_
      (try simp only [Act.put])
      refine wpAnyH_done (by kernel_rfl) ?_ _
      refine NoPanic.normal ?_
      have HT5 := Lib.hid (HT4.out.put 0 (by rw [HTL.out]; omega) p1 HPS.out)
      have HV5 := Lib.hid (RowAt.put_other HV4.out lb (0 * 64) (byteVals p1) HNB.out)
      have HL5 : Hid (Below w.heap.size w (W4.setCells lb (0 * 64) (byteVals p1))) := Lib.hid (below_setCells _ HLB.out _ _ _ HL4.out)
      have HLT5 : Hid (lb < (W4.setCells lb (0 * 64) (byteVals p1)).heap.size) := Lib.hid (by rw [heap_setCells]; exact HLT4.out)
      clear hq0 hq1 hq2 hq3 hq4 HT4 HV4 HL4 HLT4 HT2 HV2 HL2 HLT2 HV0 hHeld hB4
      generalize W4.setCells lb (0 * 64) (byteVals p1) = W5 at HT5 HV5 HL5 HLT5 ⊢
      have HVP := Lib.hid (ChVar.page HV5.out)
      have HI : Hid (1 + k < ((lyK cs k).set 0 p1).length) := Lib.hid (by rw [List.length_set, HTL.out, HN.out]; omega)
      have hkn : (1 : Int) + (k : Int) < 1 + (n : Int) := by omega
      have hk0 : (0 : Int) ≤ 1 + (k : Int) := by omega
      have hkt : (1 + (k : Int)).toNat = 1 + k := by omega
      go_wp2_with (first
        | ((with_reducible refine wpList_load_at HVP.out HPL.out rfl (.tmp 41) rfl ?_ ?_); (exact rfl))
        | ((with_reducible refine wpList_store_row HT5.out (1 + k) HI.out HPL.out rfl (.tmp 43) (.tmp 42) rfl ?_ ?_ ?_); (exact rfl); (exact rfl)))
      have HT6 := Lib.hid (HT5.out.put (1 + k) HI.out x.page HPL.out)
      rw [HST.out] at HT6
      have HL6 : Hid (Below w.heap.size w (W5.setCells lb ((1 + k) * 64) (byteVals x.page))) := Lib.hid (below_setCells _ HLB.out _ _ _ HL5.out)
      have HLT6 : Hid (lb < (W5.setCells lb ((1 + k) * 64) (byteVals x.page)).heap.size) := Lib.hid (by rw [heap_setCells]; exact HLT5.out)
      go_roundw
      case rel => exact ⟨k + 1, by omega, by go_num, HT6.out, HLT6.out, HL6.out⟩
      case measure => simp [intOf]; omega
    · obtain rfl : k = n := by omega
      have HA : Hid (lyK cs k = Jn.layN cs) := Lib.hid (by rw [← HN.out]; exact lyK_all cs)
      rw [HA.out] at HT
      go_wp2_with fail
      go_ret
      exact ⟨lb, rfl, HT.out, HLB.out, HLT.out, HL.out⟩
end Go.Proofs.YtppbiohjhnoagaaGreat

/-
  The contracts of journal's get and laidOut.
-/
namespace Go.Proofs.YtppbiohjhnoagaaGreat
open Go.RowKit
open Dk (zeros zeros_length)
open Hd (Head rightB pageH)
open Jn (Chg)

/-- the pages that are read from a place on -/
def rdN (s : Dk.St) (a n : Nat) : List (List UInt8) := (List.range n).map fun (i : Nat) => Dk.readP s ((a + i : Nat) : Int)
set_option maxRecDepth 100000 in
theorem rdN_length (s : Dk.St) (a n : Nat) : (rdN s a n).length = n := by unfold rdN; simp
def gtK (s : Dk.St) (a n k : Nat) : List (List UInt8) := rdN s a k ++ List.replicate (n - k) zeros
set_option maxRecDepth 100000 in
theorem gtK_length (s : Dk.St) (a n k : Nat) (h : k ≤ n) : (gtK s a n k).length = n := by unfold gtK; simp [rdN_length]; omega
set_option maxRecDepth 100000 in
theorem gtK_step (s : Dk.St) (a n k : Nat) (h : k < n) : (gtK s a n k).set k (Dk.readP s ((a + k : Nat) : Int)) = gtK s a n (k + 1) := by
  unfold gtK
  rw [List.set_append_right _ _ (by rw [rdN_length]; exact Nat.le_refl _), rdN_length, Nat.sub_self, show n - k = (n - (k + 1)) + 1 by omega, List.replicate_succ, List.set_cons_zero]
  have e : rdN s a (k + 1) = rdN s a k ++ [Dk.readP s ((a + k : Nat) : Int)] := by unfold rdN; rw [List.range_succ, List.map_append]; rfl
  rw [e]
  simp
structure GetI (w : World) (d l m : Nat) (s : Dk.St) (r g z b a n k : Nat) (W : World) : Prop where
  disk : DiskAt W d l m s
  reg : RowAt W r (regVals d g z)
  tab : RowsAt W b (gtK s a n k)
  lt : b < W.heap.size
  fresh : w.heap.size ≤ b
  apart : b ≠ r
  old : d < w.heap.size ∧ l < w.heap.size ∧ m < w.heap.size
  below : Below w.heap.size w W
set_option maxRecDepth 100000 in
theorem GetI.call {w : World} {d l m : Nat} {s : Dk.St} {r g z b a n k : Nat} {W W' : World} (h : GetI w d l m s r g z b a n k W) (hb : Below W.heap.size W W') : GetI w d l m s r g z b a n k W' :=
  ⟨h.disk.below hb, h.reg.below hb h.reg.lt, h.tab.below hb h.lt, Nat.lt_of_lt_of_le h.lt hb.size, h.fresh, h.apart, h.old, h.below.trans (hb.mono h.below.size)⟩
set_option maxRecDepth 100000 in
theorem GetI.put {w : World} {d l m : Nat} {s : Dk.St} {r g z b a n k : Nat} {W : World} (h : GetI w d l m s r g z b a n k W) (hk : k < n) (hp : (Dk.readP s ((a + k : Nat) : Int)).length = 64) : GetI w d l m s r g z b a n (k + 1) (W.setCells b (k * 64) (byteVals (Dk.readP s ((a + k : Nat) : Int)))) := by
  have ho : Only [b] W (W.setCells b (k * 64) (byteVals (Dk.readP s ((a + k : Nat) : Int)))) := Only.setCells b (by simp) _ _ _ (Only.refl _ _)
  have hf := h.fresh
  have hold := h.old
  exact { disk := h.disk.only ho (by simp; omega) (by simp; omega) (by simp; omega)
          reg := h.reg.only ho (by simp; exact Ne.symm h.apart)
          tab := by
            have := h.tab.put k (by rw [gtK_length _ _ _ _ (by omega)]; exact hk) _ hp
            rw [gtK_step _ _ _ _ hk] at this
            exact this
          lt := by rw [heap_setCells]; exact h.lt
          fresh := h.fresh, apart := h.apart, old := h.old
          below := below_setCells _ h.fresh _ _ _ h.below }
set_option maxRecDepth 100000 in
theorem getI_start {w : World} {d l m : Nat} {s : Dk.St} (g z a n : Nat) (h : DiskAt w d l m s) (t1 t2 : TypeId) : GetI w d l m s w.heap.size g z (w.heap.size + 1) a n 0 ((w.alloc (.cells (regVals d g z).toArray t1)).alloc (.cells (zeroRow n) t2)) where
  disk := (h.alloc _).alloc _
  reg := (rowAt_new w _ t1).alloc _
  tab := by
    have := rowsAt_new (w.alloc (.cells (regVals d g z).toArray t1)) n t2
    have e : gtK s a n 0 = List.replicate n zeros := by unfold gtK rdN; simp
    rw [e]
    simpa using this
  lt := by simp
  fresh := by omega
  apart := by omega
  old := ⟨h.dlt, h.llt, h.mlt⟩
  below := ((Below.refl _ _).alloc (Nat.le_refl _) _).alloc (by simp) _

set_option maxRecDepth 100000 in
set_option maxHeartbeats 2000000 in
theorem getp_any {w : World} {d l m : Nat} {s : Dk.St} (h : DiskAt w d l m s) (g z a n : Nat) (ha : a ≤ 1000) (hn : n ≤ 1000) (hup : s.down = false) (hreg : a + n ≤ s.last.length) :
    Calls Tryz.prog 87 #[regV d g z, .int .i64 (a : Int), .int .i64 (n : Int)] w fun e w' => e = .returned (.tuple #[.slice (some ⟨w.heap.size + 1, 0, none⟩) n n, .int .i64 0]) ∧ RowsAt w' (w.heap.size + 1) (rdN s a n) ∧ Below w.heap.size w w' := by
  have HS := Lib.hid (getI_start g z a n h 92 38)
  have hmk := run_make_pages (w.alloc (.cells (regVals d g z).toArray 92)) n hn
  have HOK := Lib.hid h.ok
  have HRE : Hid (∀ k, k < n → Dk.reachE s ((a + k : Nat) : Int) = 0) := Lib.hid (fun k hk => Dk.reach_mk hup (Dk.has_mk (by omega)))
  clear h hup hreg
  unfold regV
  unfold regVals at HS hmk
  go_enter Tryz.func87, Tryz.ntmps87
  go_wp2_with fail
  clear hmk
  generalize ((w.alloc (.cells _ 92)).alloc (.cells (zeroRow n) 38)) = w1 at HS ⊢
  generalize hrb : w.heap.size = rb at HS ⊢
  have HRB := Lib.hid hrb
  clear hrb
  go_loopw [16] (fun i wr => ∃ k : Nat, k ≤ n ∧ i = .int .i64 k ∧ GetI w d l m s rb g z (rb + 1) a n k wr) (fun i _ => n - (intOf i).toNat)
  case atStart => exact ⟨0, Nat.zero_le _, rfl, HS.out⟩
  case round =>
    obtain ⟨k, hk, rfl, hget⟩ := hrel
    have HI := Lib.hid hget
    clear hget HS
    by_cases hlt : k < n
    · have HX : Hid ((a : Int) + (k : Int) = ((a + k : Nat) : Int)) := Lib.hid (by omega)
      have HPL := Lib.hid (Dk.readP_len HOK.out ((a + k : Nat) : Int))
      have HPUT := Lib.hid (fun (W : World) (hW : GetI w d l m s rb g z (rb + 1) a n k W) => hW.put hlt HPL.out)
      have HRD : Hid (∀ W, GetI w d l m s rb g z (rb + 1) a n k W → Calls Tryz.prog 35 #[.pointer (some ⟨d, 0, none⟩), .int .i64 ((a + k : Nat) : Int)] W fun e w' => e = .returned (.tuple #[pageV (Dk.readP s ((a + k : Nat) : Int)), .int .i64 0]) ∧ Below W.heap.size W w') := Lib.hid (fun W hW => by
        have := read_any hW.disk ((a + k : Nat) : Int)
        rw [HRE.out k hlt] at this
        exact this)
      generalize Dk.readP s ((a + k : Nat) : Int) = p at HPL HRD HPUT
      have hr0 := HI.out.reg.cell 0 _ rfl
      go_wp2_with fail
      rw [HX.out]
      refine (HRD.out _ HI.out).mono ?_
      rintro e W2 ⟨rfl, hB2⟩
      have HI2 := Lib.hid (HI.out.call hB2)
      clear HI hB2 hr0 HRD
      have HTL : Hid (k < (gtK s a n k).length) := Lib.hid (by rw [gtK_length _ _ _ _ hk]; exact hlt)
      go_wp2_with (first
        | ((with_reducible refine wpList_store_new rfl (.tmp 10) (.tmp 26) rfl rfl ?_ ?_ HPL.out ?_); (exact rfl); (exact rfl); intro W3 hP hB3 hz3; have HI3 := Lib.hid (HI2.out.call hB3); have HP3 := Lib.hid hP; clear HI2 hP hB3 hz3; generalize W2.heap.size = B at HP3 ⊢)
        | (with_reducible refine wpList_load_page HP3.out rfl (.tmp 10) rfl rfl ?_)
        | ((with_reducible refine wpList_store_row HI3.out.tab k HTL.out HPL.out rfl (.tmp 34) (.tmp 33) rfl ?_ ?_ ?_); (exact rfl); (exact rfl)))
      have HI4 := Lib.hid (HPUT.out _ HI3.out)
      go_roundw
      case rel => exact ⟨k + 1, by omega, by go_num, HI4.out⟩
      case measure => simp [intOf]; omega
    · obtain rfl : k = n := by omega
      have HE : Hid (gtK s a k k = rdN s a k) := Lib.hid (by unfold gtK; simp)
      have HT := Lib.hid HI.out.tab
      rw [HE.out] at HT
      go_wp2_with fail
      go_ret2
      rw [HRB.out]
      exact ⟨rfl, HT.out, by rw [← HRB.out]; exact HI.out.below⟩

/-! ### a table of changes -/
structure ChTab (w : World) (b : Nat) (cs : List Chg) : Prop where
  size : ∀ c ∈ cs, c.page.length = 64
  range : ∀ i c, cs[i]? = some c → w.rangeAt b (i * 65) (chgVals c)
  free : w.there b 0 (cs.length * 65)
set_option maxRecDepth 100000 in
theorem ChTab.block {w w' : World} {b : Nat} {cs : List Chg} (h : ChTab w b cs) (hb : w'.heap[b]? = w.heap[b]?) : ChTab w' b cs := ⟨h.size, fun i c hc => rangeAt_block (h.range i c hc) hb, there_block h.free hb⟩
set_option maxRecDepth 100000 in
theorem ChTab.below {w w' : World} {b : Nat} {cs : List Chg} (h : ChTab w b cs) (hb : Below w.heap.size w w') (hl : b < w.heap.size) : ChTab w' b cs := h.block (hb.block b hl)
set_option maxRecDepth 100000 in
theorem ChTab.thereAt {w : World} {b : Nat} {cs : List Chg} (h : ChTab w b cs) (i : Nat) (hi : i < cs.length) : w.there b (i * 65) 65 := fun j hj => by
  have := h.free (i * 65 + j) (by have : (i + 1) * 65 ≤ cs.length * 65 := Nat.mul_le_mul_right _ hi; omega)
  rwa [Nat.zero_add] at this
set_option maxRecDepth 100000 in
theorem ChTab.put {w : World} {b : Nat} {cs : List Chg} (h : ChTab w b cs) (i : Nat) (hi : i < cs.length) (c : Chg) (hp : c.page.length = 64) : ChTab (w.setCells b (i * 65) (chgVals c)) b (cs.set i c) where
  size := fun q hq => by
    rcases List.mem_or_eq_of_mem_set hq with h1 | h1
    · exact h.size q h1
    · rw [h1]; exact hp
  range := fun j q hq => by
    rw [List.getElem?_set] at hq
    by_cases e : i = j
    · subst e
      rw [if_pos rfl, if_pos hi] at hq
      injection hq with hq
      subst hq
      exact World.rangeAt_setCells_same _ _ _ _ (by rw [chgVals_length hp]; exact h.thereAt i hi)
    · rw [if_neg e] at hq
      have hql : q.page.length = 64 := h.size q (List.mem_of_getElem? hq)
      refine World.rangeAt_setCells_apart (h.range j q hq) _ _ _ (Or.inr ?_)
      rw [chgVals_length hp, chgVals_length hql]
      rcases Nat.lt_or_gt_of_ne e with g | g
      · have : (i + 1) * 65 ≤ j * 65 := Nat.mul_le_mul_right _ g; omega
      · have : (j + 1) * 65 ≤ i * 65 := Nat.mul_le_mul_right _ g; omega
  free := by rw [List.length_set]; exact World.there_setCells h.free _ _ _
def zeroTab (n : Nat) : Array Value := madeCells (Value.agg chgZero).cells (n * 65)
set_option maxRecDepth 100000 in
theorem info_chg : (Tryz.prog.info? 114).map (fun i => (i.zero, i.size, i.bytes)) = some (some (.agg chgZero), 65, 72) := by kernel_rfl
set_option maxRecDepth 100000 in
theorem run_make_chgs (w : World) (n : Nat) (hn : n ≤ 1000) : (Instr.makeSlice 86 (.int .i64 (n : Int)) (.int .i64 (n : Int))).run Tryz.prog w = .ok (.slice (some ⟨w.heap.size, 0, none⟩) n n) (w.alloc (.cells (zeroTab n) 114)) := by
  obtain ⟨i, hi, hz, hs, hb⟩ := info_parts info_chg
  have := run_make (P := Tryz.prog) w 86 114 i (.agg chgZero) Tryz.underlying86 hi hz .i64 .i64 (n : Int) (n : Int) (by omega) (by omega) (by rw [hb]; omega) (by omega)
  rw [hs, Int.toNat_natCast] at this
  exact this
set_option maxRecDepth 100000 in
theorem zeroTab_at (n i j : Nat) (hi : i < n) (hj : j < 65) : (zeroTab n)[i * 65 + j]? = chgZero[j]? := by
  have hs : (Value.agg chgZero).cells = chgZero := rfl
  unfold zeroTab
  rw [hs]
  unfold madeCells
  rw [chgZero_size]
  have hlt : i * 65 + j < n * 65 := by have : (i + 1) * 65 ≤ n * 65 := Nat.mul_le_mul_right _ hi; omega
  rw [Array.getElem?_map, Array.getElem?_range, if_pos hlt]
  have hm : (i * 65 + j) % 65 = j := by omega
  simp only [Option.map_some, hm]
  rw [getElem!_def, Array.getElem?_eq_getElem (by rw [chgZero_size]; exact hj)]
set_option maxRecDepth 100000 in
theorem zeroTab_size (n : Nat) : (zeroTab n).size = n * 65 := by unfold zeroTab madeCells; simp
set_option maxRecDepth 100000 in
theorem chTab_new (w : World) (n : Nat) (t : TypeId) : ChTab (w.alloc (.cells (zeroTab n) t)) w.heap.size (List.replicate n ⟨0, zeros⟩) where
  size := fun c hc => by rw [List.eq_of_mem_replicate hc]; exact zeros_length
  range := fun i c hc => by
    have hi : i < n := by
      have := (List.getElem?_eq_some_iff.1 hc).1
      simpa using this
    have hc' : c = ⟨0, zeros⟩ := List.eq_of_mem_replicate (List.mem_of_getElem? hc)
    subst hc'
    intro j v hv
    have hj : j < 65 := by
      have := (List.getElem?_eq_some_iff.1 hv).1
      rw [chgVals_length zeros_length] at this; exact this
    rw [World.cell?_alloc_mark, zeroTab_at n i j hi hj]
    unfold chgZero
    rw [List.getElem?_toArray]; exact hv
  free := there_new w _ t _ (by rw [zeroTab_size]; simp)
set_option maxRecDepth 100000 in
theorem wpList_store_chg {ops : Array Oper} {rest : List Oper} {op : Oper} {a : Act} {Q : Exit → Act → World → Prop} {w : World} {b : Nat} {cs : List Chg} (h : ChTab w b cs) (i : Nat) (hi : i < cs.length) {c : Chg} (hp : c.page.length = 64) (hgd : op.guard = none) (x y : Operand) (ho : op.op = .store 114 x y)
    (hx : a.eval x = .pointer (some ⟨b, i * 65, none⟩)) (hy : a.eval y = chgV c) (hK : wpList Tryz.prog ops Q rest (a.put op.dst undef) (w.setCells b (i * 65) (chgVals c))) : wpList Tryz.prog ops Q (op :: rest) a w :=
  wpList_store_mid hgd 114 x y ho b (i * 65) (chgVals c).toArray hx hy (by rw [List.size_toArray, chgVals_length hp]; exact h.thereAt i hi) (by rw [chg_info, List.size_toArray, chgVals_length hp]) (all_oneCell_toArray (chgVals_one c)) (by simpa using hK)
set_option maxRecDepth 100000 in
theorem ChTab.slice {w : World} {b : Nat} {cs : List Chg} (h : ChTab w b cs) (hlt : b < w.heap.size) {L : List Nat} (hb : b ∉ L) : ChAt w (some ⟨b, 0, none⟩) L cs := fun _ =>
  ⟨b, 0, rfl, hlt, hb, fun i c hc => by rw [Nat.zero_add]; exact h.range i c hc⟩
end Go.Proofs.YtppbiohjhnoagaaGreat

/-
  A change that is written out; slices of one page and of one change.
-/
namespace Go.Proofs.YtppbiohjhnoagaaGreat
open Go.RowKit
open Dk (zeros zeros_length)
open Hd (Head rightB pageH)
open Jn (Chg)

set_option maxRecDepth 100000 in
theorem chg_built (parts : List (Nat × Value)) : Tryz.prog.built 114 parts = Instr.fill (#[((0 : Nat), (1 : Nat)), (1, 64)][·]?) chgZero parts := by kernel_rfl
set_option maxRecDepth 100000 in
theorem fill_two (z : Array Value) (v : Value) (q : Array Value) (hv : v.cells = #[v]) (hq : q.size = 64) (hz : z.size = 65) :
    Instr.fill (#[((0 : Nat), (1 : Nat)), (1, 64)][·]?) z [(0, v), (1, .agg q)] = some (v :: q.toList).toArray := by
  have hc : (Value.agg q).cells = q := rfl
  obtain ⟨g1, g2⟩ := Great.foldl_set 0 [v] 0 z
  obtain ⟨k1, k2⟩ := Great.foldl_set 1 q.toList 0 (([v].zipIdx 0).foldl (fun cs (x : Value × Nat) => cs.setIfInBounds (0 + x.2) x.1) z)
  rw [g1, hz] at k1
  unfold Instr.fill
  show (if v.cells.size ≠ 1 || 0 + v.cells.size > z.size then none else _) = _
  rw [if_neg (by rw [hv, hz]; simp)]
  unfold Instr.fill
  show (if (Value.agg q).cells.size ≠ 64 || 1 + (Value.agg q).cells.size > _ then none else _) = _
  have hsz : (v.cells.zipIdx.foldl (fun cs (x : Value × Nat) => cs.setIfInBounds (0 + x.2) x.1) z).size = 65 := by
    rw [← Array.foldl_toList, Array.toList_zipIdx, hv]
    rw [← hz]; exact g1
  rw [if_neg (by rw [hc, hq, hsz]; simp)]
  unfold Instr.fill
  congr 1
  apply Array.ext_getElem?
  intro k
  have e : (Array.foldl (fun cs (x : Value × Nat) => cs.setIfInBounds (1 + x.2) x.1) (Array.foldl (fun cs (x : Value × Nat) => cs.setIfInBounds (0 + x.2) x.1) z v.cells.zipIdx) (Value.agg q).cells.zipIdx)
      = (q.toList.zipIdx 0).foldl (fun cs (x : Value × Nat) => cs.setIfInBounds (1 + x.2) x.1) (([v].zipIdx 0).foldl (fun cs (x : Value × Nat) => cs.setIfInBounds (0 + x.2) x.1) z) := by
    rw [hc, hv, ← Array.foldl_toList, Array.toList_zipIdx, ← Array.foldl_toList (xs := #[v].zipIdx), Array.toList_zipIdx]
  refine (congrArg (·[k]?) e).trans ?_
  have e2 : ((v :: q.toList).toArray)[k]? = (v :: q.toList)[k]? := by simp
  rw [e2]
  show ((q.toList.zipIdx 0).foldl _ _)[k]? = _
  rw [k2 k, g2 k, g1, hz, Array.length_toList, hq]
  by_cases h0 : k = 0
  · subst h0
    rw [if_neg (by omega), if_pos (by simp)]; rfl
  · obtain ⟨j, rfl⟩ : ∃ j, k = j + 1 := ⟨k - 1, by omega⟩
    rw [List.getElem?_cons_succ]
    by_cases hj : j < 64
    · rw [if_pos (by omega)]
      congr 1
    · rw [if_neg (by omega), if_neg (by simp), Array.getElem?_eq_none (by omega), List.getElem?_eq_none (by rw [Array.length_toList]; omega)]
set_option maxRecDepth 100000 in
theorem built_chg (v : Int) (p : List UInt8) (hp : p.length = 64) : Tryz.prog.built 114 [(0, .int .i64 v), (1, pageV p)] = some (chgVals ⟨v, p⟩).toArray := by
  rw [chg_built]
  unfold pageV
  rw [fill_two chgZero _ _ rfl (by rw [List.size_toArray, byteVals_length, hp]) chgZero_size]
  rfl
set_option maxRecDepth 100000 in
theorem wpList_buildChg {ops : Array Oper} {rest : List Oper} {o : Oper} {a : Act} {w : World} {Q : Exit → Act → World → Prop} (v : Int) (p : List UInt8) (hp : p.length = 64) (hg : o.guard = none) (x y : Operand) (ho : o.op = .build 114 #[(0, x), (1, y)]) (d : Option Tmp) (hd : o.dst = d) (hx : a.eval x = .int .i64 v) (hy : a.eval y = pageV p)
    (h : wpList Tryz.prog ops Q rest (a.put d (chgV ⟨v, p⟩)) w) : wpList Tryz.prog ops Q (o :: rest) a w :=
  wpList_buildTo hg 114 _ ho d hd (chgVals ⟨v, p⟩).toArray (by
    simp only [List.map_toArray, List.map_cons, List.map_nil, hx, hy]
    exact built_chg v p hp) h

/-! ### slices of one -/
set_option maxRecDepth 100000 in
theorem page_type : ∃ i z, Tryz.prog.info? 38 = some i ∧ i.zero = some z ∧ i.size = 64 ∧ i.bytes = 64 ∧ z.cells.size = 64 := by
  have h1 := page_info
  have h2 : (Tryz.prog.info? 38).map (·.bytes) = some 64 := by kernel_rfl
  have h3 : ((Tryz.prog.info? 38).bind (·.zero)).map (·.cells.size) = some 64 := by kernel_rfl
  cases h : Tryz.prog.info? 38 with
  | none => rw [h] at h1; cases h1
  | some i =>
    rw [h] at h1 h2 h3
    cases hz : i.zero with
    | none => simp [hz] at h3
    | some z =>
      simp [hz] at h1 h2 h3
      exact ⟨i, z, rfl, hz, h1, h2, h3⟩
set_option maxRecDepth 100000 in
theorem run_buildPage (w : World) (p : List UInt8) (hp : p.length = 64) : (Instr.buildSlice 60 1 #[(0, pageV p)]).run Tryz.prog w = .ok (.slice (some ⟨w.heap.size, 0, none⟩) 1 1) (w.alloc (.cells (byteVals p).toArray 38)) := by
  obtain ⟨i, z, hi, hz, hs, _, _⟩ := page_type
  refine run_buildSlice w 60 38 1 #[(0, pageV p)] _ i z Tryz.underlying60 hi hz (by rw [hs]; omega) (by rw [hs]; omega) ?_
  rw [hs]
  have h := Great.fill_whole (s := 64) (by omega) [pageV p] ((Array.range (1 * 64)).map (z.cells[· % z.cells.size]!)) (fun v hv => by
    rw [List.mem_singleton] at hv
    rw [hv]
    show (byteVals p).toArray.size = 64
    rw [List.size_toArray, byteVals_length, hp]) (by simp)
  refine h.trans ?_
  congr 1
  show ([pageV p].flatMap fun v => v.cells.toList).toArray = _
  simp [pageV, Value.cells]
set_option maxRecDepth 100000 in
theorem wp_buildPage {o : Oper} {a : Act} {w : World} {K : Act → World → Prop} {Q : Exit → Act → World → Prop} {p : List UInt8} (hp : p.length = 64) (x : Operand) (ho : o.op = .buildSlice 60 1 #[(0, x)]) (hx : a.eval x = pageV p)
    (h : K (a.put o.dst (.slice (some ⟨w.heap.size, 0, none⟩) 1 1)) (w.alloc (.cells (byteVals p).toArray 38))) : o.wp Tryz.prog a w K Q := by
  have hr := run_buildPage w p hp
  unfold Oper.wp execOp
  simp only [ho, List.map_toArray, List.map_cons, List.map_nil, hx, Sem.run_bind, hr, Result.andThen_ok]
  exact h
set_option maxRecDepth 100000 in
theorem wpList_buildPage {ops : Array Oper} {rest : List Oper} {o : Oper} {a : Act} {w : World} {Q : Exit → Act → World → Prop} {p : List UInt8} (hp : p.length = 64) (hgd : o.guard = none) (x : Operand) (ho : o.op = .buildSlice 60 1 #[(0, x)]) (hx : a.eval x = pageV p)
    (h : wpList Tryz.prog ops Q rest (a.put o.dst (.slice (some ⟨w.heap.size, 0, none⟩) 1 1)) (w.alloc (.cells (byteVals p).toArray 38))) : wpList Tryz.prog ops Q (o :: rest) a w :=
  wpList_plain hgd fun _ hK => wp_buildPage hp x ho hx (hK _ _ h)
set_option maxRecDepth 100000 in
theorem rows_one (w : World) (p : List UInt8) (hp : p.length = 64) (t : TypeId) : RowsAt (w.alloc (.cells (byteVals p).toArray t)) w.heap.size [p] where
  size := fun q hq => by rw [List.mem_singleton] at hq; rw [hq]; exact hp
  range := fun i q hq => by
    match i, hq with
    | 0, hq =>
      injection hq with hq
      rw [← hq]
      exact (pageAt_new w p t hp).range
  free := (pageAt_new w p t hp).free
set_option maxRecDepth 100000 in
theorem anyH_buildPage {ops : Array Oper} {Q : Exit → Act → World → Prop} {md : Region.Mode} {S : World → Prop} {i : Nat} {oi : Oper} {fuel : Nat} {listed : Array Bool} {a : Act} {w : World} {p : List UInt8} (hp : p.length = 64)
    (hr : Region.ready md ops listed = [i]) (hi : ops[i]? = some oi) (hw : Region.wanted oi (yielded ops a.tmps) = true) (x : Operand) (ho : oi.op = .buildSlice 60 1 #[(0, x)]) (hx : a.eval x = pageV p) (d : Option Tmp) (hd : oi.dst = d)
    (hS : S (w.alloc (.cells (byteVals p).toArray 38)))
    (hK : S (w.alloc (.cells (byteVals p).toArray 38)) → wpAnyH Tryz.prog md ops Q S fuel (listed.setIfInBounds i true) (a.put d (.slice (some ⟨w.heap.size, 0, none⟩) 1 1)) (w.alloc (.cells (byteVals p).toArray 38))) : wpAnyH Tryz.prog md ops Q S (fuel + 1) listed a w :=
  anyH_one hr hi hw fun _ hK' => wp_buildPage hp x ho hx (hK' _ _ hS (hd ▸ hK hS))
end Go.Proofs.YtppbiohjhnoagaaGreat

/-
  The contract of journal's laidOut.
-/
namespace Go.Proofs.YtppbiohjhnoagaaGreat
open Go.RowKit
open Dk (zeros zeros_length)
open Hd (Head rightB pageH)
open Jn (Chg)

def otK (ps : List (List UInt8)) (n k : Nat) : List Chg := Jn.outN ps k ++ List.replicate (n - k) ⟨0, zeros⟩
set_option maxRecDepth 100000 in
theorem otK_length (ps : List (List UInt8)) (n k : Nat) (h : k ≤ n) : (otK ps n k).length = n := by unfold otK; simp [Jn.out_length]; omega
set_option maxRecDepth 100000 in
theorem otK_step (ps : List (List UInt8)) (n k : Nat) (h : k < n) : (otK ps n k).set k ⟨Pg.getN (ps.getD 0 []) ((k : Int) * 2) 2, ps.getD (1 + k) []⟩ = otK ps n (k + 1) := by
  unfold otK
  rw [List.set_append_right _ _ (by rw [Jn.out_length]; exact Nat.le_refl _), Jn.out_length, Nat.sub_self, show n - k = (n - (k + 1)) + 1 by omega, List.replicate_succ, List.set_cons_zero]
  have e : Jn.outN ps (k + 1) = Jn.outN ps k ++ [⟨Pg.getN (ps.getD 0 []) ((k : Int) * 2) 2, ps.getD (1 + k) []⟩] := by unfold Jn.outN; rw [List.range_succ, List.map_append]; rfl
  rw [e]
  simp
set_option maxRecDepth 100000 in
set_option maxHeartbeats 4000000 in
theorem laidOut_any {w : World} (lb n : Nat) (ps : List (List UInt8)) (hrow : RowsAt w lb ps) (hlen : ps.length = 1 + n) (h1 : 1 ≤ n) (h2 : n ≤ 32) :
    Calls Tryz.prog 89 #[.slice (some ⟨lb, 0, none⟩) (1 + n) (1 + n), .int .i64 (n : Int)] w fun e w' => ∃ cb, e = .returned (.slice (some ⟨cb, 0, none⟩) n n) ∧ ChTab w' cb (Jn.outN ps n) ∧ w.heap.size ≤ cb ∧ cb < w'.heap.size ∧ Below w.heap.size w w' := by
  have HROW := Lib.hid hrow
  have HLL := Lib.hid (hrow.lt (by omega))
  have HLEN := Lib.hid hlen
  have HS := Lib.hid (chTab_new w n 114)
  have e0 : otK ps n 0 = List.replicate n ⟨0, zeros⟩ := by unfold otK Jn.outN; simp
  rw [← e0] at HS
  clear hrow hlen e0
  have HLS := Lib.hid (lists_one n h1 h2)
  have hmk := run_make_chgs w n (by omega)
  have HB1 : Hid (Below w.heap.size w (w.alloc (.cells (zeroTab n) 114))) := Lib.hid ((Below.refl _ _).alloc (Nat.le_refl _) _)
  have HLT1 : Hid (w.heap.size < (w.alloc (.cells (zeroTab n) 114)).heap.size) := Lib.hid (by simp)
  go_enter Tryz.func89, Tryz.ntmps89
  go_wp2_with (go_at_call 88; refine (HLS.out _).mono ?_; rintro e w' ⟨rfl, rfl⟩)
  clear hmk HLS
  generalize w.alloc (.cells (zeroTab n) 114) = w1 at HS HB1 HLT1 ⊢
  generalize hcb : w.heap.size = cb at HS HLT1 ⊢
  have HCB : Hid (w.heap.size ≤ cb) := Lib.hid (by omega)
  clear hcb
  go_loopw [15] (fun i wr => ∃ (k : Nat), k ≤ n ∧ i = .int .i64 k ∧ ChTab wr cb (otK ps n k) ∧ cb < wr.heap.size ∧ Below w.heap.size w wr) (fun i _ => n - (intOf i).toNat)
  case atStart => exact ⟨0, Nat.zero_le _, rfl, HS.out, HLT1.out, HB1.out⟩
  case round =>
    obtain ⟨k, hk, rfl, htab, hltb, hbel⟩ := hrel
    have HT := Lib.hid htab
    have HL := Lib.hid hbel
    have HLT := Lib.hid hltb
    clear htab hbel hltb HS HB1 HLT1
    by_cases hlt : k < n
    · obtain ⟨p0, hp0⟩ : ∃ p, ps[0]? = some p := ⟨_, List.getElem?_eq_getElem (by rw [HLEN.out]; omega)⟩
      obtain ⟨p, hpk⟩ : ∃ p, ps[1 + k]? = some p := ⟨_, List.getElem?_eq_getElem (by rw [HLEN.out]; omega)⟩
      have HP0 := Lib.hid hp0
      have HPK := Lib.hid hpk
      have HPL0 := Lib.hid (HROW.out.size p0 (List.mem_of_getElem? hp0))
      have HPLK := Lib.hid (HROW.out.size p (List.mem_of_getElem? hpk))
      have HST := Lib.hid (otK_step ps n k hlt)
      rw [List.getD_eq_getElem?_getD, hp0, List.getD_eq_getElem?_getD, hpk] at HST
      simp only [Option.getD_some] at HST
      have HG := Lib.hid (fun (W : World) => get_any p0 ((k : Int) * 2) 2 W HPL0.out (by omega) (by omega))
      have HRW := Lib.hid (HROW.out.below HL.out HLL.out)
      have HTL : Hid (k < (otK ps n k).length) := Lib.hid (by rw [otK_length _ _ _ hk]; exact hlt)
      clear hp0 hpk
      generalize Pg.getN p0 ((k : Int) * 2) 2 = v at HST HG
      have hq1 : (k : Int) / 32 = 0 := by omega
      have hq2 : (k : Int) % 32 = (k : Int) := by omega
      have hn2 : 0 < 1 + n := by omega
      go_wp2_with (first
        | ((with_reducible refine wpList_load_row HRW.out 0 HP0.out rfl (.tmp 21) rfl ?_ ?_); (exact rfl)))
      refine (HG.out _).mono ?_
      rintro e W2 ⟨rfl, hB2⟩
      have HRW2 := Lib.hid (HRW.out.below hB2 (Nat.lt_of_lt_of_le HLL.out HL.out.size))
      have HT2 := Lib.hid (HT.out.below hB2 HLT.out)
      have HL2 := Lib.hid (HL.out.trans (hB2.mono HL.out.size))
      have HLT2 : Hid (cb < W2.heap.size) := Lib.hid (Nat.lt_of_lt_of_le HLT.out hB2.size)
      clear HRW HT HL HLT hB2 hq1 hq2
      have hkn : (1 : Int) + (k : Int) < 1 + (n : Int) := by omega
      have hk0 : (0 : Int) ≤ 1 + (k : Int) := by omega
      have hkt : (1 + (k : Int)).toNat = 1 + k := by omega
      go_wp2_with (first
        | ((with_reducible refine wpList_load_row HRW2.out (1 + k) HPK.out rfl (.tmp 34) rfl ?_ ?_); (exact rfl))
        | ((with_reducible refine wpList_buildChg v p HPLK.out rfl (.tmp 29) (.tmp 35) rfl (some 36) rfl ?_ ?_ ?_); (exact rfl); (exact rfl))
        | ((with_reducible refine wpList_store_chg HT2.out k HTL.out (c := ⟨v, p⟩) HPLK.out rfl (.tmp 37) (.tmp 36) rfl ?_ ?_ ?_); (exact rfl); (exact rfl)))
      have HT6 := Lib.hid (HT2.out.put k HTL.out ⟨v, p⟩ HPLK.out)
      rw [HST.out] at HT6
      have HL6 : Hid (Below w.heap.size w (W2.setCells cb (k * 65) (chgVals ⟨v, p⟩))) := Lib.hid (below_setCells _ HCB.out _ _ _ HL2.out)
      have HLT6 : Hid (cb < (W2.setCells cb (k * 65) (chgVals ⟨v, p⟩)).heap.size) := Lib.hid (by rw [heap_setCells]; exact HLT2.out)
      go_roundw
      case rel => exact ⟨k + 1, by omega, by go_num, HT6.out, HLT6.out, HL6.out⟩
      case measure => simp [intOf]; omega
    · obtain rfl : k = n := by omega
      have HA : Hid (otK ps k k = Jn.outN ps k) := Lib.hid (by unfold otK; simp)
      rw [HA.out] at HT
      go_wp2_with fail
      go_ret
      exact ⟨cb, rfl, HT.out, HCB.out, HLT.out, HL.out⟩
end Go.Proofs.YtppbiohjhnoagaaGreat
