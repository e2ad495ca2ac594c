/-
  The contracts of the statement's pages and great.
-/
import Derived.Test.YtlamllnflbdcjaaJarr
namespace Go.Proofs.Ytlamllnflbdcjaa
open Go.RowKit
open Dk (zeros zeros_length)
open Hd (Head rightB pageH)
open Jn (Chg quietH liveH)

structure PgI (w : World) (d l m : Nat) (s : Dk.St) (rb ob k : Nat) (W : World) : Prop where
  disk : DiskAt W d l m s
  res : RowsAt W rb (List.replicate 60 zeros)
  out : RowsAt W ob (pgK s k)
  rlt : rb < W.heap.size
  olt : ob < W.heap.size
  rf : w.heap.size ≤ rb
  fr : w.heap.size ≤ ob
  apart : ob ≠ rb
  old : d < w.heap.size ∧ l < w.heap.size ∧ m < w.heap.size
  below : Below w.heap.size w W
theorem PgI.call {w : World} {d l m : Nat} {s : Dk.St} {rb ob k : Nat} {W W' : World} (h : PgI w d l m s rb ob k W) (hb : Below W.heap.size W W') : PgI w d l m s rb ob k W' :=
  ⟨h.disk.below hb, h.res.below hb h.rlt, h.out.below hb h.olt, Nat.lt_of_lt_of_le h.rlt hb.size, Nat.lt_of_lt_of_le h.olt hb.size, h.rf, h.fr, h.apart, h.old, h.below.trans (hb.mono h.below.size)⟩
theorem PgI.put {w : World} {d l m : Nat} {s : Dk.St} {rb ob k : Nat} {W : World} (h : PgI w d l m s rb ob k W) (hk : k < 60) (hp : (pgF s k).length = 64) : PgI w d l m s rb ob (k + 1) (W.setCells ob (k * 64) (byteVals (pgF s k))) := by
  have ho : Only [ob] W (W.setCells ob (k * 64) (byteVals (pgF s k))) := Only.setCells ob (by simp) _ _ _ (Only.refl _ _)
  have hf := h.fr
  have hold := h.old
  exact { disk := h.disk.only ho (by simp; omega) (by simp; omega) (by simp; omega)
          res := h.res.block (ho.block rb h.rlt (by simp; exact Ne.symm h.apart))
          out := by
            have := h.out.put k (by rw [pgK_length _ _ (by omega)]; exact hk) _ hp
            rw [pgK_step _ _ hk] at this
            exact this
          rlt := by rw [heap_setCells]; exact h.rlt
          olt := by rw [heap_setCells]; exact h.olt
          rf := h.rf, fr := h.fr, apart := h.apart, old := h.old
          below := below_setCells _ h.fr _ _ _ h.below }
theorem pgI_start {w : World} {d l m : Nat} {s : Dk.St} (h : DiskAt w d l m s) (t1 t2 : TypeId) : PgI w d l m s w.heap.size (w.heap.size + 1) 0 ((w.alloc (.cells (zeroRow 60) t1)).alloc (.cells (zeroRow 60) t2)) where
  disk := (h.alloc _).alloc _
  res := (rowsAt_new w 60 t1).block (Below.heap_alloc _ _ _ (by simp))
  out := by
    have := rowsAt_new (w.alloc (.cells (zeroRow 60) t1)) 60 t2
    have e : pgK s 0 = List.replicate 60 zeros := by unfold pgK; simp
    rw [e]
    simpa using this
  rlt := by simp; omega
  olt := by simp
  rf := Nat.le_refl _
  fr := by omega
  apart := by omega
  old := ⟨h.dlt, h.llt, h.mlt⟩
  below := ((Below.refl _ _).alloc (Nat.le_refl _) _).alloc (by simp) _

set_option maxRecDepth 100000 in
set_option maxHeartbeats 4000000 in
theorem pagesOf_any {w : World} {d l m : Nat} {s : Dk.St} (h : DiskAt w d l m s) : Calls Try.prog 9 #[.pointer (some ⟨d, 0, none⟩)] w fun e w' => e = .returned (rowsV (pgs s)) ∧ Below w.heap.size w w' := by
  have HS := Lib.hid (pgI_start h 43 43)
  have HOK := Lib.hid h.ok
  clear h
  have hz43 := rows_zero
  go_enter Try.func9, Try.ntmps9
  go_wp2_with fail
  generalize ((w.alloc (.cells (zeroRow 60) 43)).alloc (.cells (zeroRow 60) 43)) = w1 at HS ⊢
  generalize hrb : w.heap.size = rb at HS ⊢
  have HRB := Lib.hid hrb
  clear hrb
  go_loopw [5] (fun i wr => ∃ k : Nat, k ≤ 60 ∧ i = .int .i64 k ∧ PgI w d l m s rb (rb + 1) k wr) (fun i _ => 60 - (intOf i).toNat)
  case atStart => exact ⟨0, by omega, rfl, HS.out⟩
  case round =>
    obtain ⟨k, hk, rfl, hpg⟩ := hrel
    have HI := Lib.hid hpg
    clear hpg HS
    by_cases hlt : k < 60
    · have HPL := Lib.hid (pgF_len HOK.out k)
      have HPUT := Lib.hid (fun (W : World) (hW : PgI w d l m s rb (rb + 1) k W) => hW.put hlt HPL.out)
      have HTL : Hid (k < (pgK s k).length) := Lib.hid (by rw [pgK_length _ _ hk]; exact hlt)
      by_cases hc : k < 2 ∨ 22 ≤ k
      · have HF : Hid (pgF s k = Dk.readP s (k : Int)) := Lib.hid (by unfold pgF; rw [if_pos hc])
        have HRD := Lib.hid (read_any HI.out.disk (k : Int))
        rw [← HF.out] at HRD
        generalize Dk.reachE s (k : Int) = E at HRD
        generalize pgF s k = p at HRD HPL HPUT
        by_cases hc2 : k < 2
        · go_wp2_with fail
          refine HRD.out.mono ?_
          rintro e W2 ⟨rfl, hB2⟩
          have HI2 := Lib.hid (HI.out.call hB2)
          clear HI hB2 HRD
          go_wp2_with ((with_reducible refine wpList_store_row HI2.out.out k HTL.out HPL.out rfl (.tmp 21) (.tmp 19) rfl ?_ ?_ ?_); (exact rfl); (exact rfl))
          have HI4 := Lib.hid (HPUT.out _ HI2.out)
          go_roundw
          case rel => exact ⟨k + 1, by omega, by go_num, HI4.out⟩
          case measure => simp [intOf]; omega
        · have hc3 : 22 ≤ k := by omega
          go_wp2_with fail
          refine HRD.out.mono ?_
          rintro e W2 ⟨rfl, hB2⟩
          have HI2 := Lib.hid (HI.out.call hB2)
          clear HI hB2 HRD
          go_wp2_with ((with_reducible refine wpList_store_row HI2.out.out k HTL.out HPL.out rfl (.tmp 21) (.tmp 19) rfl ?_ ?_ ?_); (exact rfl); (exact rfl))
          have HI4 := Lib.hid (HPUT.out _ HI2.out)
          go_roundw
          case rel => exact ⟨k + 1, by omega, by go_num, HI4.out⟩
          case measure => simp [intOf]; omega
      · have HZ : Hid (pgF s k = zeros) := Lib.hid (by unfold pgF; rw [if_neg hc])
        have HE := Lib.hid (pgK_skip s k hlt HZ.out)
        have hc2 : ¬ k < 2 := by omega
        have hc3 : ¬ 22 ≤ k := by omega
        have HI4 : Hid (PgI w d l m s rb (rb + 1) (k + 1) wr) := Lib.hid { HI.out with out := by rw [← HE.out]; exact HI.out.out }
        go_wp2_with fail
        go_roundw
        case rel => exact ⟨k + 1, by omega, by go_num, HI4.out⟩
        case measure => simp [intOf]; omega
    · obtain rfl : k = 60 := by omega
      have HE : Hid (pgK s 60 = pgs s) := Lib.hid (by unfold pgK pgs; simp)
      have HT := Lib.hid HI.out.out
      rw [HE.out] at HT
      have HP := Lib.hid (pgs_pages HOK.out)
      have HL := Lib.hid (pgs_length s)
      have HR6 : Hid ((List.replicate 60 zeros).length = 60) := Lib.hid List.length_replicate
      go_wp2_with (first
        | ((with_reducible refine wpList_load_rows HT.out HL.out rfl (.tmp 3) rfl ?_ ?_); (exact rfl))
        | ((with_reducible refine wpList_store_rows HI.out.res HR6.out HP.out HL.out rfl (.tmp 2) (.tmp 23) rfl ?_ ?_ ?_); (exact rfl); (exact rfl)))
      exact bodyPost_ret (results_rows _ 2 rfl _ (HI.out.res.putAll HP.out (HL.out.trans HR6.out.symm)) HL.out rfl) rfl ⟨rfl, by rw [HRB.out]; exact below_setCells _ (by have := HI.out.rf; omega) _ _ _ (by rw [← HRB.out]; exact HI.out.below)⟩
end Go.Proofs.Ytlamllnflbdcjaa
