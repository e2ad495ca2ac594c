/-
  The contract of disk's Crash: the walk.
-/
import Derived.Test.YtlamllnflbdcjaaDcrash
import Derived.Test.YtlamllnflbdcjaaDheld
namespace Go.Proofs.Ytlamllnflbdcjaa
open Go.RowKit Go.Maps
open Dk (zeros zeros_length)

theorem keepC {W W' : World} {d B kb o : Nat} {v u : Value} {p : List UInt8} (hb : Below W.heap.size W W') (h : W.cell? ⟨d, 3, none⟩ = some v ∧ PageAt W B p ∧ W.cell? ⟨kb, o, none⟩ = some u) :
    W'.cell? ⟨d, 3, none⟩ = some v ∧ PageAt W' B p ∧ W'.cell? ⟨kb, o, none⟩ = some u :=
  ⟨(hb.cell (p := ⟨d, 3, none⟩) (World.block_lt_of_cell? W _ h.1)).trans h.1, h.2.1.below hb h.2.1.lt, (hb.cell (p := ⟨kb, o, none⟩) (World.block_lt_of_cell? W _ h.2.2)).trans h.2.2⟩
theorem keepP {W : World} {d B kb o l i : Nat} {v u : Value} {p : List UInt8} {vs : List Value} (h : W.cell? ⟨d, 3, none⟩ = some v ∧ PageAt W B p ∧ W.cell? ⟨kb, o, none⟩ = some u) (h1 : d ≠ l) (h2 : B ≠ l) (h3 : kb ≠ l) :
    (W.setCells l i vs).cell? ⟨d, 3, none⟩ = some v ∧ PageAt (W.setCells l i vs) B p ∧ (W.setCells l i vs).cell? ⟨kb, o, none⟩ = some u :=
  ⟨(World.cell?_of_block (w := W) (a := ⟨d, 3, none⟩) (heap_setCells_other l vs i W d h1)).trans h.1, h.2.1.block (heap_setCells_other l vs i W B h2), (World.cell?_of_block (w := W) (a := ⟨kb, o, none⟩) (heap_setCells_other l vs i W kb h3)).trans h.2.2⟩
set_option maxRecDepth 100000 in
set_option maxHeartbeats 4000000 in
theorem crash_row {w : World} {d l m : Nat} {s : Dk.St} (h : DiskAt w d l m s) (A : Option Addr) (cp : Nat) (keep : List UInt8) (kb ko : Nat) (_hsm : keep.length ≤ 1000) (hroom : keep.length ≤ cp) (hA : 0 < keep.length → A = some ⟨kb, ko, none⟩)
    (hkc : ∀ j, j < keep.length → kb < w.heap.size ∧ kb ∉ [d, l, m] ∧ w.cell? ⟨kb, ko + j, none⟩ = some (.int .u8 ((keep.getD j 0).toNat : Int))) :
    Calls Try.prog 11 #[.pointer (some ⟨d, 0, none⟩), .slice A keep.length cp] w fun e w' =>
    e = .returned (.tuple #[]) ∧ DiskAt w' d l m (Dk.crash s keep) ∧ Only [d, l, m] w w' := by
  have HD := Lib.hid h
  have HK := Lib.hid hkc
  have HAA := Lib.hid hA
  have HR0 : Hid (RestV kb ko keep keep (.slice A keep.length cp)) := Lib.hid ⟨0, keep.length, A, cp, by omega, rfl, rfl, hroom, hA⟩
  have HN : Hid (s.last.length ≤ 512) := Lib.hid h.ok.small
  have hn := h.ok.small
  have c3 := h.c3
  clear h hkc hA
  go_enter Try.func11, Try.ntmps11
  go_wp2_with fail
  go_loopw [1, 14] (fun v i wr => ∃ k : Nat, k ≤ s.last.length ∧ i = .int .i64 k ∧ RestV kb ko keep (Dk.crashTo s keep k).2 v ∧ CrashAt w l s keep k wr) (fun _ i _ => s.last.length - (intOf i).toNat)
  case atStart => exact ⟨0, Nat.zero_le _, rfl, HR0.out, ⟨HD.out.rows, Only.refl _ _⟩⟩
  case round =>
    obtain ⟨k, hk, rfl, ⟨j, M, A1, c1, hjM, hr, rfl, hMc, hA1⟩, hcr⟩ := hrel
    have HC := Lib.hid hcr
    have HR := Lib.hid hr
    have HJM := Lib.hid hjM
    have HA1 := Lib.hid hA1
    clear hr hjM hA1
    obtain ⟨q3, q4, q5⟩ := hcr.disk HD.out
    clear hcr
    by_cases hlt : k < s.last.length
    · have hlook := q5.look k (by omega)
      have hk0 : (0 : Int) ≤ (k : Int) := by omega
      have hk1 : (k : Int) < (s.last.length : Int) := by omega
      clear q5
      cases hca : Dk.cacheAt s k with
      | none =>
        have HE : Hid (Dk.crashTo s keep (k + 1) = Dk.crashTo s keep k) := Lib.hid (Dk.crashOne_none hca)
        have hca' : s.cache.getD k none = none := hca
        rw [hca'] at hlook
        simp only [Option.getD_none, Option.isSome_none] at hlook
        clear hca hca'
        go_wp2_with ((with_reducible refine wpList_store_new rfl (.tmp 5) (.tmp 24) rfl rfl ?_ ?_ zeros_length ?_); (exact rfl); (exact rfl); intro W2 hP hB2 hz2; clear hlook q3 q4)
        go_roundw
        case rel =>
          refine ⟨k + 1, by omega, by go_num, ?_, ?_⟩
          · rw [HE.out]; exact ⟨j, M, A1, c1, HJM.out, HR.out, rfl, hMc, HA1.out⟩
          · have := crash_step HD.out HC.out hB2
            exact ⟨HE.out ▸ this.rows, this.only⟩
        case measure => simp [intOf]; omega
      | some p =>
        have hca' : s.cache.getD k none = some p := hca
        rw [hca'] at hlook
        simp only [Option.getD_some, Option.isSome_some] at hlook
        have HPL := Lib.hid (Dk.cacheAt_len HD.out.ok hca)
        have HCA := Lib.hid hca
        clear hca hca'
        cases M with
        | zero =>
          have HNIL : Hid ((Dk.crashTo s keep k).2 = []) := Lib.hid (by rw [HR.out]; exact List.drop_of_length_le (by have := HJM.out; omega))
          have HFIN : Hid (Dk.crashTo s keep s.last.length = Dk.crashTo s keep k) := Lib.hid (by
            have := Dk.crashTo_nil s keep k HNIL.out (s.last.length - k)
            rwa [show k + (s.last.length - k) = s.last.length by omega] at this)
          go_wp2_with ((with_reducible refine wpList_store_new rfl (.tmp 5) (.tmp 24) rfl rfl ?_ ?_ HPL.out ?_); (exact rfl); (exact rfl); intro W2 hP hB2 hz2; clear hlook q3 q4; have HC2 := Lib.hid (crash_step HD.out HC.out hB2); clear HC hB2 hz2 hP; have HC := HC2; have HQM := Lib.hid (HC.out.disk HD.out); obtain ⟨w2, hcl0, hmp, htn⟩ := MapAt.clear HQM.out.2.2 s.last.length 0; have hcl : ∀ ty, (Builtin.clear_ #[55] ty #[.map (some m)]).run Try.prog W2 = .ok (.tuple #[]) w2 := fun ty => hcl0; have HEND := Lib.hid (crash_end HD.out HC.out HFIN.out hmp htn); have c4' := HQM.out.2.1; have c0 := HEND.out.1.c0; have c1 := HEND.out.1.c1; have c2 := HEND.out.1.c2; have f0 := HEND.out.1.f0; have f1 := HEND.out.1.f1; have f2 := HEND.out.1.f2; clear hcl0 hmp htn)
          skip
          go_end0
          exact ⟨rfl, HEND.out.2.2, ((HEND.out.2.1.setCell (by simp) _).setCell (by simp) _).setCell (by simp) _⟩
        | succ M =>
          obtain ⟨c0, r0, hcr⟩ : ∃ c0 r0, (Dk.crashTo s keep k).2 = c0 :: r0 ∧ r0 = keep.drop (j + 1) ∧ keep.getD j 0 = c0 := by
            have hj : j < keep.length := by have := HJM.out; omega
            refine ⟨keep[j], keep.drop (j + 1), by rw [HR.out]; exact List.drop_eq_getElem_cons hj, rfl, ?_⟩
            rw [List.getD_eq_getElem?_getD, List.getElem?_eq_getElem hj]; rfl
          obtain ⟨hcr1, hcr2, hcr3⟩ := hcr
          have HCR1 := Lib.hid hcr1
          have HCR2 := Lib.hid hcr2
          obtain ⟨C, rfl⟩ : ∃ C, c1 = C + 1 := ⟨c1 - 1, by omega⟩
          have hA1' := HA1.out (by omega)
          subst hA1'
          obtain ⟨A2, hslw, hA2⟩ := run_slice_tail (some ⟨kb, ko + j, none⟩) kb (ko + j) M C rfl (by omega)
          have hslw2 : ∀ W : World, (Instr.sliceAt 29 (.slice (some ⟨kb, ko + j, none⟩) (M + 1) (C + 1)) (some (.int .i64 1)) none none).run Try.prog W = .ok (.slice A2 M C) W := fun W => (run_sliceAt_slice W 29 _ _ _ _ (by kernel_rfl)).trans (hslw W)
          have HA2 := Lib.hid hA2
          have hkj := HK.out j (by have := HJM.out; omega)
          rw [hcr3] at hkj
          have HKJ := Lib.hid hkj
          have hrow : (Dk.crashTo s keep k).1[k]? = some (Dk.lastAt s k) := by
            rw [Dk.crashTo_behind s keep k k (Nat.le_refl _)]
            unfold Dk.lastAt
            rw [List.getD_eq_getElem?_getD, List.getElem?_eq_getElem hlt]; rfl
          have HROW := Lib.hid hrow
          have HLL := Lib.hid (Dk.lastAt_len HD.out.ok hlt)
          have HT := Lib.hid (fun (W : World) => torn_any (Dk.lastAt s k) p c0 W HLL.out HPL.out)
          have HTL := Lib.hid (Dk.torn_len c0 HLL.out HPL.out)
          have hM0 : (0 : Int) < (M : Int) + 1 := by omega
          have hM1 : 0 < M + 1 := by omega
          have hM2 : ((M : Int) + 1 == 0) = false := by rw [beq_eq_false_iff_ne]; omega
          clear hcr1 hcr2 hcr3 hA2 hkj hrow
          go_wp2_with ((with_reducible refine wpList_store_new rfl (.tmp 5) (.tmp 24) rfl rfl ?_ ?_ HPL.out ?_); (exact rfl); (exact rfl); intro W2 hP hB2 hz2; clear hlook q3 q4)
          have HC2 := Lib.hid (crash_step HD.out HC.out hB2.drew)
          have HPP := Lib.hid (PageAt.drew hP)
          have e3 := (HC2.out.disk HD.out).1
          have ek : W2.drew.cell? ⟨kb, ko + j, none⟩ = some (.int .u8 (c0.toNat : Int)) := (HC2.out.only.cell (p := ⟨kb, ko + j, none⟩) HKJ.out.1 (fun q => HKJ.out.2.1 (by simp at q; simp [q]))).trans HKJ.out.2.2
          clear hB2 hz2 hP
          have HNL : Hid (wr.heap.size ≠ l) := Lib.hid (by have := Nat.lt_of_lt_of_le HD.out.llt HC.out.only.size; omega)
          have HKL : Hid (kb ≠ l) := Lib.hid (fun q => HKJ.out.2.1 (by simp [q]))
          refine wp_region_noPanic ?_
          refine wp_region_held_drew (S := fun W => W.cell? ⟨d, 3, none⟩ = some (.slice (some ⟨l, 0, none⟩) s.last.length s.last.length) ∧ PageAt W wr.heap.size p ∧ W.cell? ⟨kb, ko + j, none⟩ = some (.int .u8 (c0.toNat : Int))) (by kernel_rfl) ⟨e3, HPP.out, ek⟩ (fun hHeld => ?_)
          generalize W2.drew = W3 at HC2 HPP e3 ek hHeld ⊢
          refine take_at (i := 0) (d := some 31) (v := .pointer (some ⟨d, 0, none⟩)) rfl rfl (by kernel_rfl) (by kernel_rfl) (by kernel_rfl) (fun _ _ _ h => h) (Or.inl ⟨by kernel_rfl, ?_⟩) hHeld ?_
          · intro w hSw; obtain ⟨s1, s2, s3⟩ := hSw; go_simp
          (try simp only [Act.put, List.setIfInBounds_toArray, List.set_cons_zero, List.set_cons_succ])
          refine take_at (i := 1) (d := some 32) (v := .pointer (some ⟨d, 0, none⟩)) rfl rfl (by kernel_rfl) (by kernel_rfl) (by kernel_rfl) (fun _ _ _ h => h) (Or.inl ⟨by kernel_rfl, ?_⟩) hHeld ?_
          · intro w hSw; obtain ⟨s1, s2, s3⟩ := hSw; go_simp
          (try simp only [Act.put, List.setIfInBounds_toArray, List.set_cons_zero, List.set_cons_succ])
          refine take_at (i := 2) (d := some 33) (v := .pointer (some ⟨d, 3, none⟩)) rfl rfl (by kernel_rfl) (by kernel_rfl) (by kernel_rfl) (fun _ _ _ h => h) (Or.inl ⟨by kernel_rfl, ?_⟩) hHeld ?_
          · intro w hSw; obtain ⟨s1, s2, s3⟩ := hSw; go_simp
          (try simp only [Act.put, List.setIfInBounds_toArray, List.set_cons_zero, List.set_cons_succ])
          refine take_at (i := 3) (d := some 34) (v := .slice (some ⟨l, 0, none⟩) s.last.length s.last.length) rfl rfl (by kernel_rfl) (by kernel_rfl) (by kernel_rfl) (fun _ _ _ h => h) (Or.inl ⟨by kernel_rfl, ?_⟩) hHeld ?_
          · intro w hSw; obtain ⟨s1, s2, s3⟩ := hSw; go_simp
          (try simp only [Act.put, List.setIfInBounds_toArray, List.set_cons_zero, List.set_cons_succ])
          refine take_at (i := 4) (d := some 35) (v := .int .i64 (k : Int)) rfl rfl (by kernel_rfl) (by kernel_rfl) (by kernel_rfl) (fun _ _ _ h => h) (Or.inl ⟨by kernel_rfl, ?_⟩) hHeld ?_
          · intro w hSw; obtain ⟨s1, s2, s3⟩ := hSw; go_simp
          (try simp only [Act.put, List.setIfInBounds_toArray, List.set_cons_zero, List.set_cons_succ])
          refine take_at (i := 5) (d := some 36) (v := .pointer (some ⟨d, 0, none⟩)) rfl rfl (by kernel_rfl) (by kernel_rfl) (by kernel_rfl) (fun _ _ _ h => h) (Or.inl ⟨by kernel_rfl, ?_⟩) hHeld ?_
          · intro w hSw; obtain ⟨s1, s2, s3⟩ := hSw; go_simp
          (try simp only [Act.put, List.setIfInBounds_toArray, List.set_cons_zero, List.set_cons_succ])
          refine take_at (i := 6) (d := some 37) (v := .pointer (some ⟨d, 0, none⟩)) rfl rfl (by kernel_rfl) (by kernel_rfl) (by kernel_rfl) (fun _ _ _ h => h) (Or.inl ⟨by kernel_rfl, ?_⟩) hHeld ?_
          · intro w hSw; obtain ⟨s1, s2, s3⟩ := hSw; go_simp
          (try simp only [Act.put, List.setIfInBounds_toArray, List.set_cons_zero, List.set_cons_succ])
          refine take_at (i := 7) (d := some 38) (v := .pointer (some ⟨d, 3, none⟩)) rfl rfl (by kernel_rfl) (by kernel_rfl) (by kernel_rfl) (fun _ _ _ h => h) (Or.inl ⟨by kernel_rfl, ?_⟩) hHeld ?_
          · intro w hSw; obtain ⟨s1, s2, s3⟩ := hSw; go_simp
          (try simp only [Act.put, List.setIfInBounds_toArray, List.set_cons_zero, List.set_cons_succ])
          refine take_at (i := 8) (d := some 39) (v := .slice (some ⟨l, 0, none⟩) s.last.length s.last.length) rfl rfl (by kernel_rfl) (by kernel_rfl) (by kernel_rfl) (fun _ _ _ h => h) (Or.inl ⟨by kernel_rfl, ?_⟩) hHeld ?_
          · intro w hSw; obtain ⟨s1, s2, s3⟩ := hSw; go_simp
          (try simp only [Act.put, List.setIfInBounds_toArray, List.set_cons_zero, List.set_cons_succ])
          refine take_at (i := 9) (d := some 40) (v := .int .i64 (k : Int)) rfl rfl (by kernel_rfl) (by kernel_rfl) (by kernel_rfl) (fun _ _ _ h => h) (Or.inl ⟨by kernel_rfl, ?_⟩) hHeld ?_
          · intro w hSw; obtain ⟨s1, s2, s3⟩ := hSw; go_simp
          (try simp only [Act.put, List.setIfInBounds_toArray, List.set_cons_zero, List.set_cons_succ])
          refine take_at (i := 10) (d := some 41) (v := .pointer (some ⟨l, k * 64, none⟩)) rfl rfl (by kernel_rfl) (by kernel_rfl) (by kernel_rfl) (fun _ _ _ h => h) (Or.inl ⟨by kernel_rfl, ?_⟩) hHeld ?_
          · intro w hSw; obtain ⟨s1, s2, s3⟩ := hSw; go_simp
          (try simp only [Act.put, List.setIfInBounds_toArray, List.set_cons_zero, List.set_cons_succ])
          refine take_at (i := 12) (d := some 43) (v := pageV p) rfl rfl (by kernel_rfl) (by kernel_rfl) (by kernel_rfl) (fun _ _ _ h => h) (yields_page (by kernel_rfl) (.tmp 5) rfl rfl HPL.out (fun _ hSw => hSw.2.1.range)) hHeld ?_
          (try simp only [Act.put, List.setIfInBounds_toArray, List.set_cons_zero, List.set_cons_succ])
          refine take_at (i := 13) (d := some 44) (v := .slice (some ⟨kb, ko + j, none⟩) (M + 1) (C + 1)) rfl rfl (by kernel_rfl) (by kernel_rfl) (by kernel_rfl) (fun _ _ _ h => h) (Or.inl ⟨by kernel_rfl, ?_⟩) hHeld ?_
          · intro w hSw; obtain ⟨s1, s2, s3⟩ := hSw; go_simp
          (try simp only [Act.put, List.setIfInBounds_toArray, List.set_cons_zero, List.set_cons_succ])
          refine take_at (i := 14) (d := some 45) (v := .pointer (some ⟨kb, ko + j, none⟩)) rfl rfl (by kernel_rfl) (by kernel_rfl) (by kernel_rfl) (fun _ _ _ h => h) (Or.inl ⟨by kernel_rfl, ?_⟩) hHeld ?_
          · intro w hSw; obtain ⟨s1, s2, s3⟩ := hSw; go_simp
          (try simp only [Act.put, List.setIfInBounds_toArray, List.set_cons_zero, List.set_cons_succ])
          refine take_at (i := 15) (d := some 46) (v := .int .u8 (c0.toNat : Int)) rfl rfl (by kernel_rfl) (by kernel_rfl) (by kernel_rfl) (fun _ _ _ h => h) (Or.inl ⟨by kernel_rfl, ?_⟩) hHeld ?_
          · intro w hSw; obtain ⟨s1, s2, s3⟩ := hSw; go_simp
          (try simp only [Act.put, List.setIfInBounds_toArray, List.set_cons_zero, List.set_cons_succ])
          refine anyH_load_row (i := 11) HC2.out.rows k HROW.out (by kernel_rfl) rfl (by kernel_rfl) (.tmp 41) rfl rfl (some 42) rfl hHeld ?_
          (try simp only [Act.put, List.setIfInBounds_toArray, List.set_cons_zero, List.set_cons_succ])
          refine wpAnyH_ready (rs := [16]) (by kernel_rfl) (by simp) ?_
          refine AllReadyH.cons rfl (fun K hK => ?_) AllReadyH.nil
          go_simp
          (go_at_call 21; refine (HT.out _).mono ?_; rintro e W4 ⟨rfl, hB4⟩; have HC4 := Lib.hid (crash_step HD.out HC2.out hB4); have HC5 := Lib.hid (crash_put HD.out HC4.out hlt HCA.out HCR1.out))
          (try go_wp2_with fail)
          refine hK.out _ _ (keepC hB4 hHeld) (fun hHeld => ?_)
          clear hK K
          (try simp only [Act.put, List.setIfInBounds_toArray, List.set_cons_zero, List.set_cons_succ])
          refine take_at (i := 17) (d := some 48) (v := .pointer (some ⟨l, k * 64, none⟩)) rfl rfl (by kernel_rfl) (by kernel_rfl) (by kernel_rfl) (fun _ _ _ h => h) (Or.inl ⟨by kernel_rfl, ?_⟩) hHeld ?_
          · intro w hSw; obtain ⟨s1, s2, s3⟩ := hSw; go_simp
          (try simp only [Act.put, List.setIfInBounds_toArray, List.set_cons_zero, List.set_cons_succ])
          refine anyH_store_row (i := 18) HC4.out.rows k (by rw [Dk.crashTo_len]; exact hlt) HTL.out (by kernel_rfl) rfl (by kernel_rfl) (.tmp 48) (.tmp 47) rfl rfl rfl none rfl (keepP hHeld HD.out.dl HNL.out HKL.out) ?_
          (try simp only [Act.put])
          refine wpAnyH_done (by kernel_rfl) ?_ _
          refine NoPanic.normal ?_
          go_wp2
          go_roundw
          case rel =>
            refine ⟨k + 1, by omega, by go_num, ?_, HC5.out.1⟩
            rw [HC5.out.2]
            exact ⟨j + 1, M, A2, C, by have := HJM.out; omega, HCR2.out, rfl, by omega, fun h0 => by rw [HA2.out h0]; rfl⟩
          case measure => simp [intOf]; omega
    · obtain rfl : k = s.last.length := by omega
      have HFIN : Hid (Dk.crashTo s keep s.last.length = Dk.crashTo s keep s.last.length) := Lib.hid rfl
      clear q3 q4 q5
      have HQM := Lib.hid (HC.out.disk HD.out)
      obtain ⟨w2, hcl0, hmp, htn⟩ := MapAt.clear HQM.out.2.2 s.last.length 0
      have hcl : ∀ ty, (Builtin.clear_ #[55] ty #[.map (some m)]).run Try.prog wr = .ok (.tuple #[]) w2 := fun ty => hcl0
      have HEND := Lib.hid (crash_end HD.out HC.out HFIN.out hmp htn)
      have c4' := HQM.out.2.1
      have c0 := HEND.out.1.c0
      have c1 := HEND.out.1.c1
      have c2 := HEND.out.1.c2
      have f0 := HEND.out.1.f0
      have f1 := HEND.out.1.f1
      have f2 := HEND.out.1.f2
      clear hcl0 hmp htn
      go_wp2
      go_end0
      exact ⟨rfl, HEND.out.2.2, ((HEND.out.2.1.setCell (by simp) _).setCell (by simp) _).setCell (by simp) _⟩
theorem crash_any {w : World} {d l m : Nat} {s : Dk.St} (h : DiskAt w d l m s) (A : Option Addr) (cp : Nat) (keep : List UInt8) (hk : KeepAt w A cp keep [d, l, m]) :
    Calls Try.prog 11 #[.pointer (some ⟨d, 0, none⟩), .slice A keep.length cp] w fun e w' =>
    e = .returned (.tuple #[]) ∧ DiskAt w' d l m (Dk.crash s keep) ∧ Only [d, l, m] w w' := by
  by_cases h0 : 0 < keep.length
  · obtain ⟨kb, ko, e, h1, h2, h3⟩ := hk.cells h0
    exact crash_row h A cp keep kb ko hk.small hk.room (fun _ => e) (fun j hj => ⟨h1, h2, h3 j hj⟩)
  · exact crash_row h A cp keep 0 0 hk.small hk.room (fun q => absurd q h0) (fun j hj => by omega)
end Go.Proofs.Ytlamllnflbdcjaa
