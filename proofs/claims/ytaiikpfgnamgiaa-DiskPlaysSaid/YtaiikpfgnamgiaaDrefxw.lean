/-
  The contract of the reference's Crash.
-/
import Derived.Test.YtaiikpfgnamgiaaDrefx
namespace Go.Proofs.Ytaiikpfgnamgiaa
open Go.RowKit
open Dk (zeros zeros_length)

set_option maxHeartbeats 8000000 in
theorem rcrash_row {w : World} {r a b c : Nat} {s : Dk.St} (h : RefAt w r a b c s) (A : Option Addr) (cp : Nat) (keep : List UInt8) (kb ko : Nat) (hsm : keep.length ≤ 1000) (hA : 0 < keep.length → A = some ⟨kb, ko, none⟩)
    (hkc : ∀ j, j < keep.length → kb < w.heap.size ∧ kb ∉ [r, a, b, c] ∧ w.cell? ⟨kb, ko + j, none⟩ = some (.int .u8 ((keep.getD j 0).toNat : Int))) :
    Calls Try.prog 19 #[.pointer (some ⟨r, 0, none⟩), .slice A keep.length cp] w fun e w' =>
    e = .returned (.tuple #[]) ∧ RefAt w' r a b c (Dk.crash s keep) ∧ Only [r, a, b, c] w w' := by
  have HD := Lib.hid h
  have HK := Lib.hid hkc
  have HAA := Lib.hid hA
  have hn := h.ok.small
  clear h hkc hA
  go_enter Try.func19, Try.ntmps19
  go_wp2_with fail
  go_loopw [4, 5] (fun q i wr => ∃ k j : Nat, k ≤ s.last.length ∧ i = .int .i64 k ∧ q = .int .i64 j ∧ j ≤ k ∧ (Dk.crashTo s keep k).2 = keep.drop j ∧ RefAt wr r a b c (crashR s keep k) ∧ Only [r, a, b, c] w wr) (fun _ i _ => s.last.length - (intOf i).toNat)
  case atStart => exact ⟨0, 0, Nat.zero_le _, rfl, rfl, Nat.le_refl _, rfl, by rw [crashR_zero HD.out.ok]; exact HD.out, Only.refl _ _⟩
  case round =>
    obtain ⟨k, j, hk, rfl, rfl, hjk, hrest, hrk, hok⟩ := hrel
    rename World => wo
    have HRK := Lib.hid hrk
    have HOK := Lib.hid hok
    have HRE := Lib.hid hrest
    have e0 := hrk.c0
    have e1 := hrk.c1
    have e2 := hrk.c2
    rw [crashR_len] at e0 e1 e2
    clear hrest hok
    by_cases hlt : k < s.last.length
    · have hk0 : (0 : Int) ≤ (k : Int) := by omega
      have hk1 : (k : Int) < (s.last.length : Int) := by omega
      have hon := hrk.on.at k (by rw [hrk.n, crashR_len]; exact hlt)
      have hfr := hrk.on.frozen k (by rw [hrk.n, crashR_len]; exact hlt)
      rw [onOf_at _ k (by rw [crashR_clen]; exact hlt), crashR_cache hlt] at hon
      clear hrk
      cases hca : Dk.cacheAt s k with
      | none =>
        rw [hca] at hon
        simp only [Option.isSome_none] at hon
        have HN := Lib.hid (crashR_none (keep := keep) hca)
        clear hca
        go_wp2
        go_roundw
        case rel => exact ⟨k + 1, j, by omega, by go_num, rfl, by omega, by rw [HN.out.2]; exact HRE.out, by rw [HN.out.1]; exact HRK.out, HOK.out⟩
        case measure => simp [intOf]; omega
      | some p =>
        rw [hca] at hon
        simp only [Option.isSome_some] at hon
        have HPL := Lib.hid (Dk.cacheAt_len HD.out.ok hca)
        have HLL := Lib.hid (Dk.lastAt_len HD.out.ok hlt)
        have HST := Lib.hid (crashR_some (keep := keep) hlt hca)
        have HNW : Hid (wo.rangeAt b (k * 64) (byteVals p)) := Lib.hid (by
          obtain ⟨new, hnew⟩ := HRK.out.new
          exact hnew.rows.range k p (hnew.held k p (by rw [crashR_cache hlt]; exact hca)))
        have HIN : Hid (InnerAt wo a ((Dk.crashTo s keep k).1.set k (p.take 0 ++ (Dk.lastAt s k).drop 0)) wo) := Lib.hid ⟨by
          rw [List.take_zero, List.nil_append, List.drop_zero, set_same (crash_row_at hlt)]
          exact HRK.out.rows, Only.refl _ _⟩
        have HKL : Hid (k < (crashR s keep k).last.length) := Lib.hid (by rw [crashR_len]; exact hlt)
        have HTL : Hid ((Dk.crashTo s keep k).2.tail = keep.drop (j + 1)) := Lib.hid (by rw [HRE.out, List.tail_drop])
        clear hca
        by_cases hj : j < keep.length
        · have hj1 : (j : Int) < (keep.length : Int) := by omega
          have hj0 : (0 : Int) ≤ (j : Int) := by omega
          obtain rfl := HAA.out (by omega)
          have hkj := HK.out j hj
          have hkcell : wo.cell? ⟨kb, ko + j, none⟩ = some (.int .u8 ((keep.getD j 0).toNat : Int)) := (HOK.out.cell (p := ⟨kb, ko + j, none⟩) hkj.1 hkj.2.1).trans hkj.2.2
          clear hkj
          obtain ⟨M, hM, hMk, hM64⟩ : ∃ M : Nat, ((keep.getD j 0).toNat : Int) % 65 = (M : Int) ∧ keptOf (Dk.crashTo s keep k).2 = M ∧ M ≤ 64 := by
            refine ⟨(keep.getD j 0).toNat % 65, by omega, ?_, by omega⟩
            rw [HRE.out, List.drop_eq_getElem_cons hj, List.getD_eq_getElem?_getD, List.getElem?_eq_getElem hj]; rfl
          rw [hMk] at HST
          have hxx := (keep.getD j 0).toNat_lt
          generalize (keep.getD j 0) = xx at hkcell hM hxx
          have HM64 := Lib.hid hM64
          clear hMk hM64
          go_wp2_with fail

          have HMM := Lib.hid HM64.out
          go_loopw [7] (fun v wi => ∃ t : Nat, t ≤ M ∧ v = .int .i64 t ∧ InnerAt wo a ((Dk.crashTo s keep k).1.set k (p.take t ++ (Dk.lastAt s k).drop t)) wi) (fun v _ => M - (intOf v).toNat)
          case atStart => exact ⟨0, Nat.zero_le _, rfl, HIN.out⟩
          case round =>
            obtain ⟨t, ht, rfl, hin⟩ := hrel
            have HI := Lib.hid hin
            have i0 : wr.cell? ⟨r, 0, none⟩ = some (.slice (some ⟨a, 0, none⟩) s.last.length s.last.length) := (hin.only.cell (p := ⟨r, 0, none⟩) HRK.out.rlt (by simpa using HRK.out.ra)).trans e0
            have i1 : wr.cell? ⟨r, 1, none⟩ = some (.slice (some ⟨b, 0, none⟩) s.last.length s.last.length) := (hin.only.cell (p := ⟨r, 1, none⟩) HRK.out.rlt (by simpa using HRK.out.ra)).trans e1
            have i3 : wr.cell? ⟨r, 2, none⟩ = some (.slice (some ⟨c, 0, none⟩) s.last.length s.last.length) := (hin.only.cell (p := ⟨r, 2, none⟩) HRK.out.rlt (by simpa using HRK.out.ra)).trans e2
            have HROW : Hid (((Dk.crashTo s keep k).1.set k (p.take t ++ (Dk.lastAt s k).drop t))[k]? = some (p.take t ++ (Dk.lastAt s k).drop t)) := Lib.hid (by rw [List.getElem?_set, if_pos rfl, if_pos (by have := HKL.out; exact this)])
            by_cases htm : t < M
            · have ht64 : t < 64 := by have := HMM.out; omega
              have htI : (t : Int) < 64 := by omega
              have ht0 : (0 : Int) ≤ (t : Int) := by omega
              have i2 : wr.cell? ⟨b, k * 64 + t, none⟩ = some (.int .u8 ((p.getD t 0).toNat : Int)) := (hin.only.cell (p := ⟨b, k * 64 + t, none⟩) HRK.out.blt (by simpa using Ne.symm HRK.out.ab)).trans (HNW.out t _ (by
                have := byteVals_at p t (by rw [HPL.out]; exact ht64)
                rw [this, List.getD_eq_getElem?_getD, List.getElem?_eq_getElem (show t < p.length by rw [HPL.out]; exact ht64)]; rfl))
              have hth := HI.out.rows.thereAt k (by rw [List.length_set]; have := HKL.out; exact this) t ht64
              obtain ⟨ov, hov⟩ := Option.isSome_iff_exists.1 hth.1
              have hovf := hth.2
              have HNX := Lib.hid ((HI.out.rows.block (w' := wr.drew) rfl).setByte HROW.out ht64 (p.getD t 0))
              rw [List.set_set, mixed_step p _ t HPL.out HLL.out ht64] at HNX
              have hov' : wr.drew.cell? ⟨a, k * 64 + t, none⟩ = some ov := hov
              have hovf' : wr.drew.frozen? ⟨a, k * 64 + t, none⟩ = false := hovf
              clear hin hth hov hovf
              generalize hby : p.getD t 0 = by0 at i2 HNX
              clear hby
              go_wp2_with fail
              refine wp_region_noPanic ?_
              refine wp_region_held_drew (S := fun W => W.cell? ⟨r, 0, none⟩ = some (.slice (some ⟨a, 0, none⟩) s.last.length s.last.length) ∧ W.cell? ⟨r, 1, none⟩ = some (.slice (some ⟨b, 0, none⟩) s.last.length s.last.length) ∧ W.cell? ⟨b, k * 64 + t, none⟩ = some (.int .u8 (by0.toNat : Int))) (by kernel_rfl) ⟨i0, i1, i2⟩ (fun hHeld => ?_)
              refine take_at (i := 0) (d := some 42) (v := .pointer (some ⟨r, 0, none⟩)) rfl rfl (by kernel_rfl) (by kernel_rfl) (by kernel_rfl) (fun _ _ _ h => h) (Or.inl ⟨by kernel_rfl, ?_⟩) hHeld ?_
              · intro w hSw; obtain ⟨s1, s2, s3⟩ := hSw; go_simp
              (try simp only [Act.put, List.setIfInBounds_toArray, List.set_cons_zero, List.set_cons_succ])
              refine take_at (i := 1) (d := some 43) (v := .pointer (some ⟨r, 0, none⟩)) rfl rfl (by kernel_rfl) (by kernel_rfl) (by kernel_rfl) (fun _ _ _ h => h) (Or.inl ⟨by kernel_rfl, ?_⟩) hHeld ?_
              · intro w hSw; obtain ⟨s1, s2, s3⟩ := hSw; go_simp
              (try simp only [Act.put, List.setIfInBounds_toArray, List.set_cons_zero, List.set_cons_succ])
              refine take_at (i := 2) (d := some 44) (v := .pointer (some ⟨r, 0, none⟩)) rfl rfl (by kernel_rfl) (by kernel_rfl) (by kernel_rfl) (fun _ _ _ h => h) (Or.inl ⟨by kernel_rfl, ?_⟩) hHeld ?_
              · intro w hSw; obtain ⟨s1, s2, s3⟩ := hSw; go_simp
              (try simp only [Act.put, List.setIfInBounds_toArray, List.set_cons_zero, List.set_cons_succ])
              refine take_at (i := 3) (d := some 45) (v := .slice (some ⟨a, 0, none⟩) s.last.length s.last.length) rfl rfl (by kernel_rfl) (by kernel_rfl) (by kernel_rfl) (fun _ _ _ h => h) (Or.inl ⟨by kernel_rfl, ?_⟩) hHeld ?_
              · intro w hSw; obtain ⟨s1, s2, s3⟩ := hSw; go_simp
              (try simp only [Act.put, List.setIfInBounds_toArray, List.set_cons_zero, List.set_cons_succ])
              refine take_at (i := 4) (d := some 46) (v := .int .i64 (k : Int)) rfl rfl (by kernel_rfl) (by kernel_rfl) (by kernel_rfl) (fun _ _ _ h => h) (Or.inl ⟨by kernel_rfl, ?_⟩) hHeld ?_
              · intro w hSw; obtain ⟨s1, s2, s3⟩ := hSw; go_simp
              (try simp only [Act.put, List.setIfInBounds_toArray, List.set_cons_zero, List.set_cons_succ])
              refine take_at (i := 5) (d := some 47) (v := .int .i64 (t : Int)) rfl rfl (by kernel_rfl) (by kernel_rfl) (by kernel_rfl) (fun _ _ _ h => h) (Or.inl ⟨by kernel_rfl, ?_⟩) hHeld ?_
              · intro w hSw; obtain ⟨s1, s2, s3⟩ := hSw; go_simp
              (try simp only [Act.put, List.setIfInBounds_toArray, List.set_cons_zero, List.set_cons_succ])
              refine take_at (i := 6) (d := some 48) (v := .pointer (some ⟨r, 0, none⟩)) rfl rfl (by kernel_rfl) (by kernel_rfl) (by kernel_rfl) (fun _ _ _ h => h) (Or.inl ⟨by kernel_rfl, ?_⟩) hHeld ?_
              · intro w hSw; obtain ⟨s1, s2, s3⟩ := hSw; go_simp
              (try simp only [Act.put, List.setIfInBounds_toArray, List.set_cons_zero, List.set_cons_succ])
              refine take_at (i := 7) (d := some 49) (v := .pointer (some ⟨r, 0, none⟩)) rfl rfl (by kernel_rfl) (by kernel_rfl) (by kernel_rfl) (fun _ _ _ h => h) (Or.inl ⟨by kernel_rfl, ?_⟩) hHeld ?_
              · intro w hSw; obtain ⟨s1, s2, s3⟩ := hSw; go_simp
              (try simp only [Act.put, List.setIfInBounds_toArray, List.set_cons_zero, List.set_cons_succ])
              refine take_at (i := 8) (d := some 50) (v := .pointer (some ⟨r, 1, none⟩)) rfl rfl (by kernel_rfl) (by kernel_rfl) (by kernel_rfl) (fun _ _ _ h => h) (Or.inl ⟨by kernel_rfl, ?_⟩) hHeld ?_
              · intro w hSw; obtain ⟨s1, s2, s3⟩ := hSw; go_simp
              (try simp only [Act.put, List.setIfInBounds_toArray, List.set_cons_zero, List.set_cons_succ])
              refine take_at (i := 9) (d := some 51) (v := .slice (some ⟨b, 0, none⟩) s.last.length s.last.length) rfl rfl (by kernel_rfl) (by kernel_rfl) (by kernel_rfl) (fun _ _ _ h => h) (Or.inl ⟨by kernel_rfl, ?_⟩) hHeld ?_
              · intro w hSw; obtain ⟨s1, s2, s3⟩ := hSw; go_simp
              (try simp only [Act.put, List.setIfInBounds_toArray, List.set_cons_zero, List.set_cons_succ])
              refine take_at (i := 10) (d := some 52) (v := .int .i64 (k : Int)) rfl rfl (by kernel_rfl) (by kernel_rfl) (by kernel_rfl) (fun _ _ _ h => h) (Or.inl ⟨by kernel_rfl, ?_⟩) hHeld ?_
              · intro w hSw; obtain ⟨s1, s2, s3⟩ := hSw; go_simp
              (try simp only [Act.put, List.setIfInBounds_toArray, List.set_cons_zero, List.set_cons_succ])
              refine take_at (i := 11) (d := some 53) (v := .int .i64 (t : Int)) rfl rfl (by kernel_rfl) (by kernel_rfl) (by kernel_rfl) (fun _ _ _ h => h) (Or.inl ⟨by kernel_rfl, ?_⟩) hHeld ?_
              · intro w hSw; obtain ⟨s1, s2, s3⟩ := hSw; go_simp
              (try simp only [Act.put, List.setIfInBounds_toArray, List.set_cons_zero, List.set_cons_succ])
              refine take_at (i := 12) (d := some 54) (v := .pointer (some ⟨b, k * 64, none⟩)) rfl rfl (by kernel_rfl) (by kernel_rfl) (by kernel_rfl) (fun _ _ _ h => h) (Or.inl ⟨by kernel_rfl, ?_⟩) hHeld ?_
              · intro w hSw; obtain ⟨s1, s2, s3⟩ := hSw; go_simp
              (try simp only [Act.put, List.setIfInBounds_toArray, List.set_cons_zero, List.set_cons_succ])
              refine take_at (i := 13) (d := some 55) (v := .pointer (some ⟨b, k * 64 + t, none⟩)) rfl rfl (by kernel_rfl) (by kernel_rfl) (by kernel_rfl) (fun _ _ _ h => h) (Or.inl ⟨by kernel_rfl, ?_⟩) hHeld ?_
              · intro w hSw; obtain ⟨s1, s2, s3⟩ := hSw; go_simp
              (try simp only [Act.put, List.setIfInBounds_toArray, List.set_cons_zero, List.set_cons_succ])
              refine take_at (i := 14) (d := some 56) (v := .int .u8 (by0.toNat : Int)) rfl rfl (by kernel_rfl) (by kernel_rfl) (by kernel_rfl) (fun _ _ _ h => h) (Or.inl ⟨by kernel_rfl, ?_⟩) hHeld ?_
              · intro w hSw; obtain ⟨s1, s2, s3⟩ := hSw; go_simp
              (try simp only [Act.put, List.setIfInBounds_toArray, List.set_cons_zero, List.set_cons_succ])
              refine take_at (i := 15) (d := some 57) (v := .pointer (some ⟨a, k * 64, none⟩)) rfl rfl (by kernel_rfl) (by kernel_rfl) (by kernel_rfl) (fun _ _ _ h => h) (Or.inl ⟨by kernel_rfl, ?_⟩) hHeld ?_
              · intro w hSw; obtain ⟨s1, s2, s3⟩ := hSw; go_simp
              (try simp only [Act.put, List.setIfInBounds_toArray, List.set_cons_zero, List.set_cons_succ])
              refine take_at (i := 16) (d := some 58) (v := .pointer (some ⟨a, k * 64 + t, none⟩)) rfl rfl (by kernel_rfl) (by kernel_rfl) (by kernel_rfl) (fun _ _ _ h => h) (Or.inl ⟨by kernel_rfl, ?_⟩) hHeld ?_
              · intro w hSw; obtain ⟨s1, s2, s3⟩ := hSw; go_simp
              (try simp only [Act.put, List.setIfInBounds_toArray, List.set_cons_zero, List.set_cons_succ])
              refine wpAnyH_ready (rs := [17]) (by kernel_rfl) (by simp) ?_
              refine AllReadyH.cons rfl (fun K hK => ?_) AllReadyH.nil
              go_simp
              refine hK.out _ _ (xKeep hHeld (Below.heap_setCell _ _ _ _ HRK.out.ra) (Below.heap_setCell _ _ _ _ (Ne.symm HRK.out.ab))) (fun hHeld => ?_)
              clear hK K
              (try simp only [Act.put])
              refine wpAnyH_done (by kernel_rfl) ?_ _
              refine NoPanic.normal ?_
              go_wp2
              go_roundw
              case rel => exact ⟨t + 1, by omega, by go_num, ⟨HNX.out, HI.out.only.drew.setCell (by simp) _⟩⟩
              case measure => simp [intOf]; omega
            · obtain rfl : t = M := by omega
              have hon2 : wr.cell? ⟨c, k, none⟩ = some (.bool true) := (hin.only.cell (p := ⟨c, k, none⟩) HRK.out.clt (by simpa using Ne.symm HRK.out.ac)).trans hon
              have hfr2 : wr.frozen? ⟨c, k, none⟩ = false := (hin.only.frozen (p := ⟨c, k, none⟩) HRK.out.clt (by simpa using Ne.symm HRK.out.ac)).trans hfr
              have HSE := Lib.hid (HRK.out.settle k HKL.out (p := p.take t ++ (Dk.lastAt s k).drop t) (by rw [List.length_append, List.length_take, List.length_drop, HPL.out, HLL.out]; have := HMM.out; omega) (w' := wr) (hin.only.block r HRK.out.rlt (by simpa using HRK.out.ra)) (hin.only.block b HRK.out.blt (by simpa using Ne.symm HRK.out.ab)) (hin.only.block c HRK.out.clt (by simpa using Ne.symm HRK.out.ac)) HI.out.rows)
              have HOO := Lib.hid ((HOK.out.trans (hin.only.mono (by simp))).setCell (p := ⟨c, k, none⟩) (by simp) (.bool false))
              clear hin
              go_wp2
              go_roundw
              case rel => exact ⟨k + 1, j + 1, by omega, by go_num, by go_num, by omega, by rw [HST.out.2]; exact HTL.out, by rw [HST.out.1]; exact HSE.out, HOO.out⟩
              case measure => simp [intOf]; omega
        · have hj1 : ¬ (j : Int) < (keep.length : Int) := by omega
          have hMk : keptOf (Dk.crashTo s keep k).2 = 0 := by rw [HRE.out, List.drop_of_length_le (by omega)]; rfl
          rw [hMk] at HST
          have HM64 : Hid ((0 : Nat) ≤ 64) := Lib.hid (by omega)
          clear hMk
          go_wp2_with fail

          have HMM := Lib.hid HM64.out
          go_loopw [7] (fun v wi => ∃ t : Nat, t ≤ 0 ∧ v = .int .i64 t ∧ InnerAt wo a ((Dk.crashTo s keep k).1.set k (p.take t ++ (Dk.lastAt s k).drop t)) wi) (fun v _ => 0 - (intOf v).toNat)
          case atStart => exact ⟨0, Nat.zero_le _, rfl, HIN.out⟩
          case round =>
            obtain ⟨t, ht, rfl, hin⟩ := hrel
            have HI := Lib.hid hin
            have i0 : wr.cell? ⟨r, 0, none⟩ = some (.slice (some ⟨a, 0, none⟩) s.last.length s.last.length) := (hin.only.cell (p := ⟨r, 0, none⟩) HRK.out.rlt (by simpa using HRK.out.ra)).trans e0
            have i1 : wr.cell? ⟨r, 1, none⟩ = some (.slice (some ⟨b, 0, none⟩) s.last.length s.last.length) := (hin.only.cell (p := ⟨r, 1, none⟩) HRK.out.rlt (by simpa using HRK.out.ra)).trans e1
            have i3 : wr.cell? ⟨r, 2, none⟩ = some (.slice (some ⟨c, 0, none⟩) s.last.length s.last.length) := (hin.only.cell (p := ⟨r, 2, none⟩) HRK.out.rlt (by simpa using HRK.out.ra)).trans e2
            have HROW : Hid (((Dk.crashTo s keep k).1.set k (p.take t ++ (Dk.lastAt s k).drop t))[k]? = some (p.take t ++ (Dk.lastAt s k).drop t)) := Lib.hid (by rw [List.getElem?_set, if_pos rfl, if_pos (by have := HKL.out; exact this)])
            by_cases htm : t < 0
            · exact absurd htm (by omega)
            · obtain rfl : t = 0 := by omega
              have hon2 : wr.cell? ⟨c, k, none⟩ = some (.bool true) := (hin.only.cell (p := ⟨c, k, none⟩) HRK.out.clt (by simpa using Ne.symm HRK.out.ac)).trans hon
              have hfr2 : wr.frozen? ⟨c, k, none⟩ = false := (hin.only.frozen (p := ⟨c, k, none⟩) HRK.out.clt (by simpa using Ne.symm HRK.out.ac)).trans hfr
              have HSE := Lib.hid (HRK.out.settle k HKL.out (p := p.take 0 ++ (Dk.lastAt s k).drop 0) (by rw [List.length_append, List.length_take, List.length_drop, HPL.out, HLL.out]; have := HMM.out; omega) (w' := wr) (hin.only.block r HRK.out.rlt (by simpa using HRK.out.ra)) (hin.only.block b HRK.out.blt (by simpa using Ne.symm HRK.out.ab)) (hin.only.block c HRK.out.clt (by simpa using Ne.symm HRK.out.ac)) HI.out.rows)
              have HOO := Lib.hid ((HOK.out.trans (hin.only.mono (by simp))).setCell (p := ⟨c, k, none⟩) (by simp) (.bool false))
              clear hin
              go_wp2
              go_roundw
              case rel => exact ⟨k + 1, j + 1, by omega, by go_num, by go_num, by omega, by rw [HST.out.2]; exact HTL.out, by rw [HST.out.1]; exact HSE.out, HOO.out⟩
              case measure => simp [intOf]; omega
    · obtain rfl : k = s.last.length := by omega
      clear hrk
      have f3 := HRK.out.f3
      have f4 := HRK.out.f4
      have c3 := HRK.out.c3
      have c4 := HRK.out.c4
      have hcok := Dk.crash_ok HD.out.ok keep
      have hce := crashR_end s keep
      rw [hce] at hcok
      have HF : Hid (RefAt ((wo.setCell ⟨r, 3, none⟩ (.int .i64 (-1))).setCell ⟨r, 4, none⟩ (.bool false)) r a b c (Dk.crash s keep)) := Lib.hid (by
        rw [hce]
        exact (HRK.out.setLeft (s' := { crashR s keep s.last.length with lim := false, left := 0 }) (-1) ⟨hcok.same, hcok.pos, hcok.small, hcok.pages, hcok.cpages, hcok.lo, hcok.hi, hcok.live⟩ rfl rfl rfl rfl).setDown (s' := { crashR s keep s.last.length with lim := false, left := 0, down := false }) false hcok rfl rfl rfl rfl)
      clear hcok hce
      go_wp2
      go_end0
      exact ⟨rfl, HF.out, (HOK.out.setCell (by simp) _).setCell (by simp) _⟩
theorem rcrash_any {w : World} {r a b c : Nat} {s : Dk.St} (h : RefAt w r a b c s) (A : Option Addr) (cp : Nat) (keep : List UInt8) (hk : KeepAt w A cp keep [r, a, b, c]) :
    Calls Try.prog 19 #[.pointer (some ⟨r, 0, none⟩), .slice A keep.length cp] w fun e w' =>
    e = .returned (.tuple #[]) ∧ RefAt w' r a b c (Dk.crash s keep) ∧ Only [r, a, b, c] w w' := by
  by_cases h0 : 0 < keep.length
  · obtain ⟨kb, ko, e, h1, h2, h3⟩ := hk.cells h0
    exact rcrash_row h A cp keep kb ko hk.small (fun _ => e) (fun j hj => ⟨h1, h2, h3 j hj⟩)
  · exact rcrash_row h A cp keep 0 0 hk.small (fun q => absurd q h0) (fun j hj => by omega)
end Go.Proofs.Ytaiikpfgnamgiaa
