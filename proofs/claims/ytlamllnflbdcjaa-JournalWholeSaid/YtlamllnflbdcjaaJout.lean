/-
  The contract of journal's laidOut.
-/
import Derived.Test.YtlamllnflbdcjaaJbuild
namespace Go.Proofs.Ytlamllnflbdcjaa
open Go.RowKit
open Dk (zeros zeros_length)
open Hd (Head rightB pageH)
open Jn (Chg)

def otK (ps : List (List UInt8)) (n k : Nat) : List Chg := Jn.outN ps k ++ List.replicate (n - k) ⟨0, zeros⟩
theorem otK_length (ps : List (List UInt8)) (n k : Nat) (h : k ≤ n) : (otK ps n k).length = n := by unfold otK; simp [Jn.out_length]; omega
theorem otK_step (ps : List (List UInt8)) (n k : Nat) (h : k < n) : (otK ps n k).set k ⟨Pg.getN (ps.getD 0 []) ((k : Int) * 2) 2, ps.getD (1 + k) []⟩ = otK ps n (k + 1) := by
  unfold otK
  rw [List.set_append_right _ _ (by rw [Jn.out_length]; exact Nat.le_refl _), Jn.out_length, Nat.sub_self, show n - k = (n - (k + 1)) + 1 by omega, List.replicate_succ, List.set_cons_zero]
  have e : Jn.outN ps (k + 1) = Jn.outN ps k ++ [⟨Pg.getN (ps.getD 0 []) ((k : Int) * 2) 2, ps.getD (1 + k) []⟩] := by unfold Jn.outN; rw [List.range_succ, List.map_append]; rfl
  rw [e]
  simp
set_option maxRecDepth 100000 in
set_option maxHeartbeats 4000000 in
theorem laidOut_any {w : World} (lb n : Nat) (ps : List (List UInt8)) (hrow : RowsAt w lb ps) (hlen : ps.length = 1 + n) (h1 : 1 ≤ n) (h2 : n ≤ 32) :
    Calls Try.prog 38 #[.slice (some ⟨lb, 0, none⟩) (1 + n) (1 + n), .int .i64 (n : Int)] w fun e w' => ∃ cb, e = .returned (.slice (some ⟨cb, 0, none⟩) n n) ∧ ChTab w' cb (Jn.outN ps n) ∧ w.heap.size ≤ cb ∧ cb < w'.heap.size ∧ Below w.heap.size w w' := by
  have HROW := Lib.hid hrow
  have HLL := Lib.hid (hrow.lt (by omega))
  have HLEN := Lib.hid hlen
  have HS := Lib.hid (chTab_new w n 46)
  have e0 : otK ps n 0 = List.replicate n ⟨0, zeros⟩ := by unfold otK Jn.outN; simp
  rw [← e0] at HS
  clear hrow hlen e0
  have HLS := Lib.hid (lists_one n h1 h2)
  have hmk := run_make_chgs w n (by omega)
  have HB1 : Hid (Below w.heap.size w (w.alloc (.cells (zeroTab n) 46))) := Lib.hid ((Below.refl _ _).alloc (Nat.le_refl _) _)
  have HLT1 : Hid (w.heap.size < (w.alloc (.cells (zeroTab n) 46)).heap.size) := Lib.hid (by simp)
  go_enter Try.func38, Try.ntmps38
  go_wp2_with (go_at_call 37; refine (HLS.out _).mono ?_; rintro e w' ⟨rfl, rfl⟩)
  clear hmk HLS
  generalize w.alloc (.cells (zeroTab n) 46) = w1 at HS HB1 HLT1 ⊢
  generalize hcb : w.heap.size = cb at HS HLT1 ⊢
  have HCB : Hid (w.heap.size ≤ cb) := Lib.hid (by omega)
  clear hcb
  go_loopw [15] (fun i wr => ∃ (k : Nat), k ≤ n ∧ i = .int .i64 k ∧ ChTab wr cb (otK ps n k) ∧ cb < wr.heap.size ∧ Below w.heap.size w wr) (fun i _ => n - (intOf i).toNat)
  case atStart => exact ⟨0, Nat.zero_le _, rfl, HS.out, HLT1.out, HB1.out⟩
  case round =>
    obtain ⟨k, hk, rfl, htab, hltb, hbel⟩ := hrel
    have HT := Lib.hid htab
    have HL := Lib.hid hbel
    have HLT := Lib.hid hltb
    clear htab hbel hltb HS HB1 HLT1
    by_cases hlt : k < n
    · obtain ⟨p0, hp0⟩ : ∃ p, ps[0]? = some p := ⟨_, List.getElem?_eq_getElem (by rw [HLEN.out]; omega)⟩
      obtain ⟨p, hpk⟩ : ∃ p, ps[1 + k]? = some p := ⟨_, List.getElem?_eq_getElem (by rw [HLEN.out]; omega)⟩
      have HP0 := Lib.hid hp0
      have HPK := Lib.hid hpk
      have HPL0 := Lib.hid (HROW.out.size p0 (List.mem_of_getElem? hp0))
      have HPLK := Lib.hid (HROW.out.size p (List.mem_of_getElem? hpk))
      have HST := Lib.hid (otK_step ps n k hlt)
      rw [List.getD_eq_getElem?_getD, hp0, List.getD_eq_getElem?_getD, hpk] at HST
      simp only [Option.getD_some] at HST
      have HG := Lib.hid (fun (W : World) => get_any p0 ((k : Int) * 2) 2 W HPL0.out (by omega) (by omega))
      have HRW := Lib.hid (HROW.out.below HL.out HLL.out)
      have HTL : Hid (k < (otK ps n k).length) := Lib.hid (by rw [otK_length _ _ _ hk]; exact hlt)
      clear hp0 hpk
      generalize Pg.getN p0 ((k : Int) * 2) 2 = v at HST HG
      have hq1 : (k : Int) / 32 = 0 := by omega
      have hq2 : (k : Int) % 32 = (k : Int) := by omega
      have hn2 : 0 < 1 + n := by omega
      go_wp2_with (first
        | ((with_reducible refine wpList_load_row HRW.out 0 HP0.out rfl (.tmp 21) rfl ?_ ?_); (exact rfl)))
      refine (HG.out _).mono ?_
      rintro e W2 ⟨rfl, hB2⟩
      have HRW2 := Lib.hid (HRW.out.below hB2 (Nat.lt_of_lt_of_le HLL.out HL.out.size))
      have HT2 := Lib.hid (HT.out.below hB2 HLT.out)
      have HL2 := Lib.hid (HL.out.trans (hB2.mono HL.out.size))
      have HLT2 : Hid (cb < W2.heap.size) := Lib.hid (Nat.lt_of_lt_of_le HLT.out hB2.size)
      clear HRW HT HL HLT hB2 hq1 hq2
      have hkn : (1 : Int) + (k : Int) < 1 + (n : Int) := by omega
      have hk0 : (0 : Int) ≤ 1 + (k : Int) := by omega
      have hkt : (1 + (k : Int)).toNat = 1 + k := by omega
      go_wp2_with (first
        | ((with_reducible refine wpList_load_row HRW2.out (1 + k) HPK.out rfl (.tmp 34) rfl ?_ ?_); (exact rfl))
        | ((with_reducible refine wpList_buildChg v p HPLK.out rfl (.tmp 29) (.tmp 35) rfl (some 36) rfl ?_ ?_ ?_); (exact rfl); (exact rfl))
        | ((with_reducible refine wpList_store_chg HT2.out k HTL.out (c := ⟨v, p⟩) HPLK.out rfl (.tmp 37) (.tmp 36) rfl ?_ ?_ ?_); (exact rfl); (exact rfl)))
      have HT6 := Lib.hid (HT2.out.put k HTL.out ⟨v, p⟩ HPLK.out)
      rw [HST.out] at HT6
      have HL6 : Hid (Below w.heap.size w (W2.setCells cb (k * 65) (chgVals ⟨v, p⟩))) := Lib.hid (below_setCells _ HCB.out _ _ _ HL2.out)
      have HLT6 : Hid (cb < (W2.setCells cb (k * 65) (chgVals ⟨v, p⟩)).heap.size) := Lib.hid (by rw [heap_setCells]; exact HLT2.out)
      go_roundw
      case rel => exact ⟨k + 1, by omega, by go_num, HT6.out, HLT6.out, HL6.out⟩
      case measure => simp [intOf]; omega
    · obtain rfl : k = n := by omega
      have HA : Hid (otK ps k k = Jn.outN ps k) := Lib.hid (by unfold otK; simp)
      rw [HA.out] at HT
      go_wp2_with fail
      go_ret
      exact ⟨cb, rfl, HT.out, HCB.out, HLT.out, HL.out⟩
end Go.Proofs.Ytlamllnflbdcjaa
