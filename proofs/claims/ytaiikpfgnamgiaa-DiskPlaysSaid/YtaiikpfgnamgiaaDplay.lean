/-
  Proved: DiskPlays returns true for every count of pages and every script: whatever is written, read, flushed and broken off, in any order, a disk answers and has what the document says.
  Conditions: none beside the statement's own.
-/
import Derived.Test.YtaiikpfgnamgiaaDplaym
import Derived.Deep.DeepCutAuto
import Derived.Deep.CutBlock
namespace Go.Proofs.Ytaiikpfgnamgiaa.diskPlays
open Go.ChangeShapes Go.WideShapes Go.ChangeAt Go.RowKit
open Dk (zeros zeros_length)

set_option maxHeartbeats 2000000 in
set_option maxRecDepth 100000 in
theorem walk_none (n : Int) (v : Value) (w : World) (h : n < 1 ∨ 512 < n) :
    Calls Try.prog 3 #[.int .i64 n, v] w fun e w' => e = .returned (.bool true) ∧ Below w.heap.size w w' := by
  have HN1 := Lib.hid (fun (W : World) => new_no n W h)
  have HN2 := Lib.hid (fun (W : World) => rnew_no n W h)
  clear h
  go_enter Try.func3, Try.ntmps3
  go_wp2_with fail
  refine (awake_any _).mono ?_
  rintro e w1 ⟨rfl, hb1⟩
  go_wp2_with fail
  refine (HN1.out _).mono ?_
  rintro e w' ⟨rfl, rfl⟩
  go_wp2_with fail
  refine (HN2.out _).mono ?_
  rintro e w' ⟨rfl, rfl⟩
  go_wp2
  go_ret
  exact ⟨rfl, hb1⟩
set_option maxHeartbeats 2000000 in
set_option maxRecDepth 100000 in
theorem walk_long (n : Nat) (A : Option Addr) (k ca : Nat) (w : World) (h1 : 1 ≤ n) (h2 : n ≤ 512) (hk : k ≤ maxLen) (h : 100 < k) :
    Calls Try.prog 3 #[.int .i64 (n : Int), .slice A k ca] w fun e w' => e = .returned (.bool true) ∧ Below w.heap.size w w' := by
  unfold maxLen at hk
  have h100 : (100 : Int) < (k : Int) := by omega
  have HN1 := Lib.hid (fun (W : World) => new_any n W h1 h2)
  have HN2 := Lib.hid (fun (W : World) => rnew_any n W h1 h2)
  go_enter Try.func3, Try.ntmps3
  go_wp2_with fail
  refine (awake_any _).mono ?_
  rintro e w1 ⟨rfl, hb1⟩
  go_wp2_with fail
  refine (HN1.out _).mono ?_
  rintro e w2 ⟨rfl, rfl⟩
  go_wp2_with fail
  refine (HN2.out _).mono ?_
  rintro e w3 hnr
  obtain ⟨r, a, b, c, rfl, hp⟩ := PlayAt.start w w1 hb1 n h1 h2 hnr
  have HP := Lib.hid hp
  clear hnr hp
  go_wp2
  go_ret
  exact ⟨rfl, HP.out.below⟩
set_option maxHeartbeats 16000000 in
set_option maxRecDepth 100000 in
theorem walk_main (n : Nat) (A : Option Addr) (q ca : Nat) (os : List OpV) (w : World) (h1 : 1 ≤ n) (h2 : n ≤ 512) (hq : q ≤ 100) (hrow : OpRow w A q os) :
    Calls Try.prog 3 #[.int .i64 (n : Int), .slice A q ca] w fun e w' => e = .returned (.bool true) ∧ Below w.heap.size w w' := by
  have HR := Lib.hid hrow
  have h100 : ¬ (100 : Int) < (q : Int) := by omega
  have HN1 := Lib.hid (fun (W : World) => new_any n W h1 h2)
  have HN2 := Lib.hid (fun (W : World) => rnew_any n W h1 h2)
  clear hrow
  go_enter Try.func3, Try.ntmps3
  go_wp2_with fail
  refine (awake_any _).mono ?_
  rintro e w1 ⟨rfl, hb1⟩
  go_wp2_with fail
  refine (HN1.out _).mono ?_
  rintro e w2 ⟨rfl, rfl⟩
  go_wp2_with fail
  refine (HN2.out _).mono ?_
  rintro e w3 hnr
  obtain ⟨r, a, b, c, rfl, hp⟩ := PlayAt.start w w1 hb1 n h1 h2 hnr
  have HP0 := Lib.hid hp
  clear hnr hp hb1 HN1 HN2
  generalize w1.heap.size + 2 = d at HP0 ⊢
  generalize w1.heap.size + 1 = m at HP0
  generalize w1.heap.size = l at HP0
  go_wp2_with fail
  go_loopw [45] (fun i wr => ∃ (k : Nat) (s : Dk.St), k ≤ q ∧ i = .int .i64 k ∧ PlayAt w d l m r a b c n s s wr) (fun i _ => q - (intOf i).toNat)
  case atStart => exact ⟨0, _, Nat.zero_le _, rfl, HP0.out⟩
  case round =>
    obtain ⟨k, s, hk, rfl, hplay⟩ := hrel
    have HP1 := Lib.hid hplay
    clear hplay HP0
    by_cases hlt : k < q
    · obtain ⟨ob, oo, rfl, hob, hoc⟩ := HR.out.cells (by omega)
      obtain ⟨o, ho⟩ : ∃ o, os[k]? = some o := ⟨_, List.getElem?_eq_getElem (by rw [HR.out.len]; exact hlt)⟩
      have HOK := Lib.hid (HR.out.ok o (List.mem_of_getElem? ho))
      have HPG := Lib.hid HOK.out.page
      have HRG : Hid (wr.rangeAt ob (oo + k * 67) (opVals o)) := Lib.hid (fun j v hv => (HP1.out.below.cell (p := ⟨ob, oo + k * 67 + j, none⟩) hob).trans (hoc k o ho j v hv))
      have HOL := Lib.hid (opVals_length HOK.out)
      have HBN : Hid (∀ L : List Nat, (∀ k ∈ L, k ∈ [d, l, m, r, a, b, c]) → wr.heap.size ∉ L) := Lib.hid (fun L hL e => by
        have := HP1.out.lts wr.heap.size (hL _ e)
        omega)
      have hz34 := zeroOp
      clear hob hoc ho
      go_upto_block 2 with (first
        | (with_reducible refine wpList_load_op HOL.out HRG.out rfl (.tmp 47) rfl rfl ?_)
        | ((with_reducible refine wpList_store_op HPG.out rfl (.tmp 9) (.tmp 48) rfl rfl ?_ opZero_size ?_); (exact rfl); intro W2 hV hB2 hz2; have HV := Lib.hid hV; have HP := Lib.hid (HP1.out.byBelow hB2); have v0 := hV.k; clear hV hB2 hz2))
      clear HP1 HRG HOL
      generalize wr.heap.size = B at HV HBN v0 ⊢
      go_cut [10, 11] (fun g h wx => Meet w d l m r a b c n B o g h wx)
      case first =>
        by_cases K0 : o.K = 0
        · have z0 : (o.K == 0) = true := by simpa using K0
          clear K0
          go_wp2_with fail
          have HPD := Lib.hid (HP.out.byBelow (Below.refl _ _).drew)
          have HVD := Lib.hid (HV.out.block (W' := W2.drew) rfl)
          refine wp_region_noPanic ?_
          refine wp_region_held_drew (S := fun W => OpVar W B o) (by kernel_rfl) HVD.out (fun hHeld => ?_)
          generalize W2.drew = W3 at HPD HVD hHeld ⊢
          refine take_at (i := 0) (d := some 53) (v := .pointer (some ⟨d, 0, none⟩)) rfl rfl (by kernel_rfl) (by kernel_rfl) (by kernel_rfl) (fun _ _ _ h => h) (Or.inl ⟨by kernel_rfl, ?_⟩) hHeld ?_
          · intro w hSw; obtain ⟨q0, q1, q2, q3⟩ := hSw; go_simp
          (try simp only [Act.put, List.setIfInBounds_toArray, List.set_cons_zero, List.set_cons_succ])
          refine take_at (i := 1) (d := some 54) (v := .pointer (some ⟨B, 1, none⟩)) rfl rfl (by kernel_rfl) (by kernel_rfl) (by kernel_rfl) (fun _ _ _ h => h) (Or.inl ⟨by kernel_rfl, ?_⟩) hHeld ?_
          · intro w hSw; obtain ⟨q0, q1, q2, q3⟩ := hSw; go_simp
          (try simp only [Act.put, List.setIfInBounds_toArray, List.set_cons_zero, List.set_cons_succ])
          refine take_at (i := 2) (d := some 55) (v := .int .i64 o.N) rfl rfl (by kernel_rfl) (by kernel_rfl) (by kernel_rfl) (fun _ _ _ h => h) (Or.inl ⟨by kernel_rfl, ?_⟩) hHeld ?_
          · intro w hSw; obtain ⟨q0, q1, q2, q3⟩ := hSw; go_simp
          (try simp only [Act.put, List.setIfInBounds_toArray, List.set_cons_zero, List.set_cons_succ])
          refine take_at (i := 3) (d := some 56) (v := .pointer (some ⟨B, 2, none⟩)) rfl rfl (by kernel_rfl) (by kernel_rfl) (by kernel_rfl) (fun _ _ _ h => h) (Or.inl ⟨by kernel_rfl, ?_⟩) hHeld ?_
          · intro w hSw; obtain ⟨q0, q1, q2, q3⟩ := hSw; go_simp
          (try simp only [Act.put, List.setIfInBounds_toArray, List.set_cons_zero, List.set_cons_succ])
          refine take_at (i := 4) (d := some 57) (v := pageV o.page) rfl rfl (by kernel_rfl) (by kernel_rfl) (by kernel_rfl) (fun _ _ _ h => h) (yields_page (by kernel_rfl) (.tmp 56) rfl rfl HPG.out (fun _ hSw => hSw.page)) hHeld ?_
          (try simp only [Act.put, List.setIfInBounds_toArray, List.set_cons_zero, List.set_cons_succ])
          refine take_at (i := 6) (d := some 59) (v := .pointer (some ⟨r, 0, none⟩)) rfl rfl (by kernel_rfl) (by kernel_rfl) (by kernel_rfl) (fun _ _ _ h => h) (Or.inl ⟨by kernel_rfl, ?_⟩) hHeld ?_
          · intro w hSw; obtain ⟨q0, q1, q2, q3⟩ := hSw; go_simp
          (try simp only [Act.put, List.setIfInBounds_toArray, List.set_cons_zero, List.set_cons_succ])
          refine take_at (i := 7) (d := some 60) (v := .pointer (some ⟨B, 1, none⟩)) rfl rfl (by kernel_rfl) (by kernel_rfl) (by kernel_rfl) (fun _ _ _ h => h) (Or.inl ⟨by kernel_rfl, ?_⟩) hHeld ?_
          · intro w hSw; obtain ⟨q0, q1, q2, q3⟩ := hSw; go_simp
          (try simp only [Act.put, List.setIfInBounds_toArray, List.set_cons_zero, List.set_cons_succ])
          refine take_at (i := 8) (d := some 61) (v := .int .i64 o.N) rfl rfl (by kernel_rfl) (by kernel_rfl) (by kernel_rfl) (fun _ _ _ h => h) (Or.inl ⟨by kernel_rfl, ?_⟩) hHeld ?_
          · intro w hSw; obtain ⟨q0, q1, q2, q3⟩ := hSw; go_simp
          (try simp only [Act.put, List.setIfInBounds_toArray, List.set_cons_zero, List.set_cons_succ])
          refine take_at (i := 9) (d := some 62) (v := .pointer (some ⟨B, 2, none⟩)) rfl rfl (by kernel_rfl) (by kernel_rfl) (by kernel_rfl) (fun _ _ _ h => h) (Or.inl ⟨by kernel_rfl, ?_⟩) hHeld ?_
          · intro w hSw; obtain ⟨q0, q1, q2, q3⟩ := hSw; go_simp
          (try simp only [Act.put, List.setIfInBounds_toArray, List.set_cons_zero, List.set_cons_succ])
          refine take_at (i := 10) (d := some 63) (v := pageV o.page) rfl rfl (by kernel_rfl) (by kernel_rfl) (by kernel_rfl) (fun _ _ _ h => h) (yields_page (by kernel_rfl) (.tmp 62) rfl rfl HPG.out (fun _ hSw => hSw.page)) hHeld ?_
          (try simp only [Act.put, List.setIfInBounds_toArray, List.set_cons_zero, List.set_cons_succ])
          refine wpAnyH_ready (rs := [5]) (by kernel_rfl) (by simp) ?_
          refine AllReadyH.cons rfl (fun K hK => ?_) AllReadyH.nil
          go_simp
          (go_at_call 10; refine (write_any HPD.out.disk o.N o.page HPG.out).mono ?_; rintro e w3 ⟨rfl, hd3, ho3⟩; have HP3 := Lib.hid (HPD.out.byDisk hd3 ho3 (by simp) (Dk.write_len _ _ _)))
          (try go_wp2_with fail)
          refine hK.out _ _ (hHeld.byOnly ho3 (HBN.out _ (by simp))) (fun hHeld => ?_)
          clear hK K
          (try simp only [Act.put, List.setIfInBounds_toArray, List.set_cons_zero, List.set_cons_succ])
          refine wpAnyH_ready (rs := [11]) (by kernel_rfl) (by simp) ?_
          refine AllReadyH.cons rfl (fun K hK => ?_) AllReadyH.nil
          go_simp
          (go_at_call 11; refine (rwrite_any HP3.out.ref o.N o.page HPG.out).mono ?_; rintro e w4 ⟨rfl, hd4, ho4⟩; have HP4 := Lib.hid (HP3.out.byRef hd4 ho4 (by simp) (Dk.write_len _ _ _)))
          (try go_wp2_with fail)
          refine hK.out _ _ (hHeld.byOnly ho4 (HBN.out _ (by simp))) (fun hHeld => ?_)
          clear hK K
          (try simp only [Act.put, List.setIfInBounds_toArray, List.set_cons_zero, List.set_cons_succ])
          refine take_at (i := 12) (d := some 10) (v := .int .i64 (Dk.writeE s o.N)) rfl rfl (by kernel_rfl) (by kernel_rfl) (by kernel_rfl) (fun _ _ _ h => h) (Or.inl ⟨by kernel_rfl, ?_⟩) hHeld ?_
          · intro w hSw; obtain ⟨q0, q1, q2, q3⟩ := hSw; go_simp
          (try simp only [Act.put, List.setIfInBounds_toArray, List.set_cons_zero, List.set_cons_succ])
          refine take_at (i := 13) (d := some 11) (v := .int .i64 (Dk.writeE s o.N)) rfl rfl (by kernel_rfl) (by kernel_rfl) (by kernel_rfl) (fun _ _ _ h => h) (Or.inl ⟨by kernel_rfl, ?_⟩) hHeld ?_
          · intro w hSw; obtain ⟨q0, q1, q2, q3⟩ := hSw; go_simp
          (try simp only [Act.put, List.setIfInBounds_toArray, List.set_cons_zero, List.set_cons_succ])
          refine wpAnyH_done (by kernel_rfl) ?_ _
          refine NoPanic.normal ?_
          go_wp2
          go_meet
          exact ⟨_, _, rfl, rfl, HP4.out, hHeld⟩
        · have z0 : (o.K == 0) = false := by simpa using K0
          clear K0
          by_cases K1 : o.K = 1
          · have z1 : (o.K == 1) = true := by simpa using K1
            clear K1
            have HRL := Lib.hid (Dk.readP_len HP.out.disk.ok o.N)
            have HRA := Lib.hid (read_any HP.out.disk o.N)
            have HRB := Lib.hid (fun (W : World) (hW : PlayAt w d l m r a b c n s s W) => rread_any hW.ref o.N)
            generalize Dk.readP s o.N = P at HRL HRA HRB
            have HN1 := fun (x y : Operand) (w : World) => run_neGuard_page w x y P P
            have HN2 := fun (w : World) => run_neq_same w P HRL.out
            have v1 := HV.out.n
            go_wp2_with fail
            refine HRA.out.mono ?_
            rintro e w3 ⟨rfl, hb3⟩
            have HP3 := Lib.hid (HP.out.byBelow hb3)
            have HV3 := Lib.hid (HV.out.byBelow hb3)
            clear HRA hb3 v1 v0 HP HV
            go_wp2_with ((with_reducible refine wpList_store_new rfl (.tmp 12) (.tmp 72) rfl rfl ?_ ?_ HRL.out ?_); (exact rfl); (exact rfl); intro W4 hP4 hB4 hz4; have HP4 := Lib.hid (HP3.out.byBelow hB4); have HV4 := Lib.hid (HV3.out.byBelow hB4); have HQ4 := Lib.hid hP4; have v4 := HV4.out.n; clear hP4 hB4 hz4)
            refine (HRB.out _ HP4.out).mono ?_
            rintro e w5 ⟨rfl, hb5⟩
            have HP5 := Lib.hid (HP4.out.byBelow hb5)
            have HV5 := Lib.hid (HV4.out.byBelow hb5)
            have HQ5 := Lib.hid (HQ4.out.below hb5 HQ4.out.lt)
            clear HRB hb5 v4 HP4 HV4 HQ4 HP3 HV3
            go_wp2_with (first
              | ((with_reducible refine wpList_store_new rfl (.tmp 14) (.tmp 79) rfl rfl ?_ ?_ HRL.out ?_); (exact rfl); (exact rfl); intro W6 hP6 hB6 hz6; have HP6 := Lib.hid (HP5.out.byBelow hB6); have HV6 := Lib.hid (HV5.out.byBelow hB6); have HQ6 := Lib.hid (HQ5.out.below hB6 HQ5.out.lt); have HQ7 := Lib.hid hP6; clear hP6 hB6 hz6)
              | (with_reducible refine wpList_load_page HQ6.out rfl (.tmp 12) rfl rfl ?_)
              | (with_reducible refine wpList_load_page HQ7.out rfl (.tmp 14) rfl rfl ?_))
            go_meet
            exact ⟨_, _, rfl, rfl, HP6.out, HV6.out⟩
          · have z1 : (o.K == 1) = false := by simpa using K1
            clear K1
            by_cases K2 : o.K = 2
            · have z2 : (o.K == 2) = true := by simpa using K2
              clear K2
              go_wp2_with fail
              refine (flush_any HP.out.disk).mono ?_
              rintro e w3 ⟨rfl, hd3, ho3⟩
              have HP3 := Lib.hid (HP.out.byDisk hd3 ho3 (by simp) (Dk.flush_len _))
              have HV3 := Lib.hid (HV.out.byOnly ho3 (HBN.out _ (by simp)))
              clear HP HV hd3 ho3 v0
              go_wp2_with fail
              refine (rflush_any HP3.out.ref).mono ?_
              rintro e w4 ⟨rfl, hd4, ho4⟩
              have HP4 := Lib.hid (HP3.out.byRef hd4 ho4 (by simp) (Dk.flush_len _))
              have HV4 := Lib.hid (HV3.out.byOnly ho4 (HBN.out _ (by simp)))
              clear HP3 HV3 hd4 ho4
              go_wp2_with fail
              go_meet
              exact ⟨_, _, rfl, rfl, HP4.out, HV4.out⟩
            · have z2 : (o.K == 2) = false := by simpa using K2
              clear K2
              by_cases K3 : o.K = 3
              · have z3 : (o.K == 3) = true := by simpa using K3
                clear K3
                have v1 := HV.out.n
                go_wp2_with fail
                refine (fuse_any HP.out.disk o.N HOK.out.lo HOK.out.hi).mono ?_
                rintro e w3 ⟨rfl, hd3, ho3, hz3⟩
                have HP3 := Lib.hid (HP.out.byDisk hd3 ho3 (by simp) rfl)
                have HV3 := Lib.hid (HV.out.byOnly ho3 (HBN.out _ (by simp)))
                have v3 := HV3.out.n
                clear HP HV hd3 ho3 hz3 v0 v1
                go_wp2_with fail
                refine (rfuse_any HP3.out.ref o.N HOK.out.lo HOK.out.hi).mono ?_
                rintro e w4 ⟨rfl, hd4, ho4⟩
                have HP4 := Lib.hid (HP3.out.byRef hd4 ho4 (by simp) rfl)
                have HV4 := Lib.hid (HV3.out.byOnly ho4 (HBN.out _ (by simp)))
                clear HP3 HV3 hd4 ho4 v3
                go_wp2_with fail
                go_meet
                exact ⟨_, _, rfl, rfl, HP4.out, HV4.out⟩
              · have z3 : (o.K == 3) = false := by simpa using K3
                clear K3
                by_cases K4 : o.K = 4
                · have z4 : (o.K == 4) = true := by simpa using K4
                  clear K4
                  have v6 := HV.out.keep
                  have hsm := HOK.out.keep.small
                  unfold maxLen at hsm
                  by_cases h600 : 600 < o.n
                  · have h600' : (600 : Int) < (o.n : Int) := by omega
                    go_wp2
                    go_ret
                    exact ⟨rfl, HP.out.below⟩
                  · have h600' : ¬ (600 : Int) < (o.n : Int) := by omega
                    have hlen := HOK.out.keep.len
                    have HC1 : Hid (∀ W, PlayAt w d l m r a b c n s s W → Calls Try.prog 18 #[.pointer (some ⟨d, 0, none⟩), .slice o.A o.n o.c] W fun e w' => e = .returned (.tuple #[]) ∧ DiskAt w' d l m (Dk.crash s o.keep) ∧ Only [d, l, m] W w') := Lib.hid (fun W hW => by
                      have := crash_any hW.disk o.A o.c o.keep (HOK.out.keep.keep (by omega) hW.below (fun k hk => hW.old k (by simp at hk ⊢; omega)))
                      rw [hlen] at this
                      exact this)
                    have HC2 : Hid (∀ W, PlayAt w d l m r a b c n (Dk.crash s o.keep) s W → Calls Try.prog 19 #[.pointer (some ⟨r, 0, none⟩), .slice o.A o.n o.c] W fun e w' => e = .returned (.tuple #[]) ∧ RefAt w' r a b c (Dk.crash s o.keep) ∧ Only [r, a, b, c] W w') := Lib.hid (fun W hW => by
                      have := rcrash_any hW.ref o.A o.c o.keep (HOK.out.keep.keep (by omega) hW.below (fun k hk => hW.old k (by simp at hk ⊢; omega)))
                      rw [hlen] at this
                      exact this)
                    clear hlen
                    go_wp2_with fail
                    refine (HC1.out _ HP.out).mono ?_
                    rintro e w3 ⟨rfl, hd3, ho3⟩
                    have HP3 := Lib.hid (HP.out.byDisk hd3 ho3 (by simp) (Dk.crash_len _ _))
                    have HV3 := Lib.hid (HV.out.byOnly ho3 (HBN.out _ (by simp)))
                    have v7 := HV3.out.keep
                    clear HP HV hd3 ho3 v0 v6 HC1
                    go_wp2_with fail
                    refine (HC2.out _ HP3.out).mono ?_
                    rintro e w4 ⟨rfl, hd4, ho4⟩
                    have HP4 := Lib.hid (HP3.out.byRef hd4 ho4 (by simp) (Dk.crash_len _ _))
                    have HV4 := Lib.hid (HV3.out.byOnly ho4 (HBN.out _ (by simp)))
                    clear HP3 HV3 hd4 ho4 v7 HC2
                    go_wp2_with fail
                    go_meet
                    exact ⟨_, _, rfl, rfl, HP4.out, HV4.out⟩
                · have z4 : (o.K == 4) = false := by simpa using K4
                  clear K4
                  go_wp2
                  go_meet
                  exact ⟨_, _, rfl, rfl, HP.out, HV.out⟩
      case rest =>
        obtain ⟨E, s, rfl, rfl, hp6, hv6⟩ := hcut
        have HP6 := Lib.hid hp6
        have HV6 := Lib.hid hv6
        clear hp6 hv6 HP HV v0 hz34
        have hlo := HOK.out.lo
        have hhi := HOK.out.hi
        go_wp2_with ((with_reducible refine wpList_store_new rfl (.tmp 16) (.tmp 116) rfl rfl ?_ ?_ zeros_length ?_); (exact rfl); (exact rfl); intro W7 hP7 hB7 hz7; have HP7 := Lib.hid (HP6.out.byBelow hB7); have HV7 := Lib.hid (HV6.out.byBelow hB7); have HQ7 := Lib.hid hP7; clear hP7 hB7 hz7)
        have HB16 : Hid (wc.heap.size ∉ [d, l, m, r, a, b, c] ∧ w.heap.size ≤ wc.heap.size ∧ B ≠ wc.heap.size) := Lib.hid ⟨fun e => by have := HP6.out.lts _ e; omega, HP6.out.below.size, by have := HV6.out.lt; omega⟩
        clear HP6 HV6
        generalize wc.heap.size = B16 at HQ7 HB16 ⊢
        by_cases t1 : o.N < 0
        · have t1' : ¬ 0 ≤ o.N := by omega
          have HPQ : Hid (Dk.lastsP s o.N = zeros) := Lib.hid (by unfold Dk.lastsP; rw [if_neg (by unfold Dk.hasB; simp; omega)])
          have HPP := Lib.hid zeros_length
          refine wp_region_noPanic ?_
          refine wp_region_held_drew (S := fun W => PlayAt w d l m r a b c n s s W ∧ OpVar W B o ∧ PageAt W B16 zeros) (by kernel_rfl) ⟨HP7.out.byBelow (Below.refl _ _).drew, HV7.out.block rfl, HQ7.out.drew⟩ (fun hHeld => ?_)
          refine take_at (i := 0) (d := some 117) (v := .pointer (some ⟨B, 1, none⟩)) rfl rfl (by kernel_rfl) (by kernel_rfl) (by kernel_rfl) (fun _ _ _ h => h) (Or.inl ⟨by kernel_rfl, ?_⟩) hHeld ?_
          · intro w hSw; obtain ⟨s1, s2, s3⟩ := hSw; have q1 := s1.ref.c0; rw [s1.tlen] at q1; have q2 := s2.n; clear s1 s2 s3; go_simp
          (try simp only [Act.put, List.setIfInBounds_toArray, List.set_cons_zero, List.set_cons_succ])
          refine take_at (i := 1) (d := some 118) (v := .int .i64 o.N) rfl rfl (by kernel_rfl) (by kernel_rfl) (by kernel_rfl) (fun _ _ _ h => h) (Or.inl ⟨by kernel_rfl, ?_⟩) hHeld ?_
          · intro w hSw; obtain ⟨s1, s2, s3⟩ := hSw; have q1 := s1.ref.c0; rw [s1.tlen] at q1; have q2 := s2.n; clear s1 s2 s3; go_simp
          (try simp only [Act.put, List.setIfInBounds_toArray, List.set_cons_zero, List.set_cons_succ])
          refine take_at (i := 2) (d := some 119) (v := .bool false) rfl rfl (by kernel_rfl) (by kernel_rfl) (by kernel_rfl) (fun _ _ _ h => h) (Or.inl ⟨by kernel_rfl, ?_⟩) hHeld ?_
          · intro w hSw; obtain ⟨s1, s2, s3⟩ := hSw; have q1 := s1.ref.c0; rw [s1.tlen] at q1; have q2 := s2.n; clear s1 s2 s3; go_simp
          (try simp only [Act.put, List.setIfInBounds_toArray, List.set_cons_zero, List.set_cons_succ])
          refine take_at (i := 3) (d := some 120) (v := .bool false) rfl rfl (by kernel_rfl) (by kernel_rfl) (by kernel_rfl) (fun _ _ _ h => h) (Or.inl ⟨by kernel_rfl, ?_⟩) hHeld ?_
          · intro w hSw; obtain ⟨s1, s2, s3⟩ := hSw; have q1 := s1.ref.c0; rw [s1.tlen] at q1; have q2 := s2.n; clear s1 s2 s3; go_simp
          (try simp only [Act.put, List.setIfInBounds_toArray, List.set_cons_zero, List.set_cons_succ])
          refine take_at (i := 4) (d := some 121) (v := undef) rfl rfl (by kernel_rfl) (by kernel_rfl) (by kernel_rfl) (fun _ _ _ h => h) (Or.inr ⟨by kernel_rfl, rfl⟩) hHeld ?_
          (try simp only [Act.put, List.setIfInBounds_toArray, List.set_cons_zero, List.set_cons_succ])
          refine take_at (i := 5) (d := some 122) (v := undef) rfl rfl (by kernel_rfl) (by kernel_rfl) (by kernel_rfl) (fun _ _ _ h => h) (Or.inr ⟨by kernel_rfl, rfl⟩) hHeld ?_
          (try simp only [Act.put, List.setIfInBounds_toArray, List.set_cons_zero, List.set_cons_succ])
          refine take_at (i := 6) (d := some 123) (v := undef) rfl rfl (by kernel_rfl) (by kernel_rfl) (by kernel_rfl) (fun _ _ _ h => h) (Or.inr ⟨by kernel_rfl, rfl⟩) hHeld ?_
          (try simp only [Act.put, List.setIfInBounds_toArray, List.set_cons_zero, List.set_cons_succ])
          refine take_at (i := 7) (d := some 124) (v := undef) rfl rfl (by kernel_rfl) (by kernel_rfl) (by kernel_rfl) (fun _ _ _ h => h) (Or.inr ⟨by kernel_rfl, rfl⟩) hHeld ?_
          (try simp only [Act.put, List.setIfInBounds_toArray, List.set_cons_zero, List.set_cons_succ])
          refine take_at (i := 8) (d := some 125) (v := undef) rfl rfl (by kernel_rfl) (by kernel_rfl) (by kernel_rfl) (fun _ _ _ h => h) (Or.inr ⟨by kernel_rfl, rfl⟩) hHeld ?_
          (try simp only [Act.put, List.setIfInBounds_toArray, List.set_cons_zero, List.set_cons_succ])
          refine take_at (i := 9) (d := some 126) (v := undef) rfl rfl (by kernel_rfl) (by kernel_rfl) (by kernel_rfl) (fun _ _ _ h => h) (Or.inr ⟨by kernel_rfl, rfl⟩) hHeld ?_
          (try simp only [Act.put, List.setIfInBounds_toArray, List.set_cons_zero, List.set_cons_succ])
          refine take_at (i := 10) (d := some 127) (v := undef) rfl rfl (by kernel_rfl) (by kernel_rfl) (by kernel_rfl) (fun _ _ _ h => h) (Or.inr ⟨by kernel_rfl, rfl⟩) hHeld ?_
          (try simp only [Act.put, List.setIfInBounds_toArray, List.set_cons_zero, List.set_cons_succ])
          refine take_at (i := 11) (d := some 128) (v := undef) rfl rfl (by kernel_rfl) (by kernel_rfl) (by kernel_rfl) (fun _ _ _ h => h) (Or.inr ⟨by kernel_rfl, rfl⟩) hHeld ?_
          (try simp only [Act.put, List.setIfInBounds_toArray, List.set_cons_zero, List.set_cons_succ])
          refine take_at (i := 12) (d := some 129) (v := .bool false) rfl rfl (by kernel_rfl) (by kernel_rfl) (by kernel_rfl) (fun _ _ _ h => h) (Or.inl ⟨by kernel_rfl, ?_⟩) hHeld ?_
          · intro w hSw; obtain ⟨s1, s2, s3⟩ := hSw; have q1 := s1.ref.c0; rw [s1.tlen] at q1; have q2 := s2.n; clear s1 s2 s3; go_simp
          (try simp only [Act.put, List.setIfInBounds_toArray, List.set_cons_zero, List.set_cons_succ])
          refine wpAnyH_done (by kernel_rfl) ?_ _
          refine NoPanic.normal ?_
          go_wp2_with fail
          have HSS0 := Lib.hid hHeld
          generalize zeros = P at HPQ HPP HSS0
          have HSS : Hid (_ ∧ _ ∧ _) := Lib.hid ⟨HSS0.out.1.byBelow (Below.refl _ _).drew, HSS0.out.2.1.block (W' := W7.drew.drew) rfl, HSS0.out.2.2.drew⟩

          have HC1 : Hid (∀ W, PlayAt w d l m r a b c n s s W → Calls Try.prog 20 #[.pointer (some ⟨d, 0, none⟩)] W fun e w' => e = .returned (.int .i64 (n : Int)) ∧ W = w') := Lib.hid (fun W hW => by
            have := pages_any hW.disk
            rw [hW.slen] at this
            exact this)
          have HC2 : Hid (∀ W, PlayAt w d l m r a b c n s s W → Calls Try.prog 24 #[.pointer (some ⟨d, 0, none⟩), .int .i64 o.N] W fun e w' => e = .returned (pageV P) ∧ Below W.heap.size W w') := Lib.hid (fun W hW => by
            have := lasts_any hW.disk o.N
            rw [HPQ.out] at this
            exact this)
          have HN1 := fun (x y : Operand) (w : World) => run_neGuard_page w x y P P
          have HN2 := fun (w : World) => run_neq_same w P HPP.out
          refine wp_region_noPanic ?_
          refine wp_region_held_drew (S := fun W => PlayAt w d l m r a b c n s s W ∧ OpVar W B o ∧ PageAt W B16 P) (by kernel_rfl) HSS.out (fun hHeld => ?_)
          refine take_at (i := 0) (d := some 138) (v := .int .i64 E) rfl rfl (by kernel_rfl) (by kernel_rfl) (by kernel_rfl) (fun _ _ _ h => h) (Or.inl ⟨by kernel_rfl, ?_⟩) hHeld ?_
          · intro w hSw; obtain ⟨s1, s2, s3⟩ := hSw; have q1 := s1.ref.c4; have q2 := s2.n; clear s1 s2 s3; go_simp
          (try simp only [Act.put, List.setIfInBounds_toArray, List.set_cons_zero, List.set_cons_succ])
          refine take_at (i := 1) (d := some 139) (v := .int .i64 E) rfl rfl (by kernel_rfl) (by kernel_rfl) (by kernel_rfl) (fun _ _ _ h => h) (Or.inl ⟨by kernel_rfl, ?_⟩) hHeld ?_
          · intro w hSw; obtain ⟨s1, s2, s3⟩ := hSw; have q1 := s1.ref.c4; have q2 := s2.n; clear s1 s2 s3; go_simp
          (try simp only [Act.put, List.setIfInBounds_toArray, List.set_cons_zero, List.set_cons_succ])
          refine take_at (i := 2) (d := some 140) (v := .bool false) rfl rfl (by kernel_rfl) (by kernel_rfl) (by kernel_rfl) (fun _ _ _ h => h) (Or.inl ⟨by kernel_rfl, ?_⟩) hHeld ?_
          · intro w hSw; obtain ⟨s1, s2, s3⟩ := hSw; have q1 := s1.ref.c4; have q2 := s2.n; clear s1 s2 s3; go_simp
          (try simp only [Act.put, List.setIfInBounds_toArray, List.set_cons_zero, List.set_cons_succ])
          refine take_at (i := 3) (d := some 141) (v := .bool false) rfl rfl (by kernel_rfl) (by kernel_rfl) (by kernel_rfl) (fun _ _ _ h => h) (Or.inl ⟨by kernel_rfl, ?_⟩) hHeld ?_
          · intro w hSw; obtain ⟨s1, s2, s3⟩ := hSw; have q1 := s1.ref.c4; have q2 := s2.n; clear s1 s2 s3; go_simp
          (try simp only [Act.put, List.setIfInBounds_toArray, List.set_cons_zero, List.set_cons_succ])
          refine take_at (i := 4) (d := some 142) (v := .pointer (some ⟨d, 0, none⟩)) rfl rfl (by kernel_rfl) (by kernel_rfl) (by kernel_rfl) (fun _ _ _ h => h) (Or.inl ⟨by kernel_rfl, ?_⟩) hHeld ?_
          · intro w hSw; obtain ⟨s1, s2, s3⟩ := hSw; have q1 := s1.ref.c4; have q2 := s2.n; clear s1 s2 s3; go_simp
          (try simp only [Act.put, List.setIfInBounds_toArray, List.set_cons_zero, List.set_cons_succ])
          refine take_at (i := 6) (d := some 144) (v := .int .i64 (n : Int)) rfl rfl (by kernel_rfl) (by kernel_rfl) (by kernel_rfl) (fun _ _ _ h => h) (Or.inl ⟨by kernel_rfl, ?_⟩) hHeld ?_
          · intro w hSw; obtain ⟨s1, s2, s3⟩ := hSw; have q1 := s1.ref.c4; have q2 := s2.n; clear s1 s2 s3; go_simp
          (try simp only [Act.put, List.setIfInBounds_toArray, List.set_cons_zero, List.set_cons_succ])
          refine wpAnyH_ready (rs := [5]) (by kernel_rfl) (by simp) ?_
          refine AllReadyH.cons rfl (fun K hK => ?_) AllReadyH.nil
          go_simp
          (go_at_call 20; refine (HC1.out _ hHeld.1).mono ?_; rintro e w' ⟨rfl, rfl⟩)
          (try go_wp2_with fail)
          refine hK.out _ _ hHeld (fun hHeld => ?_)
          clear hK K
          (try simp only [Act.put, List.setIfInBounds_toArray, List.set_cons_zero, List.set_cons_succ])
          refine take_at (i := 7) (d := some 145) (v := .bool false) rfl rfl (by kernel_rfl) (by kernel_rfl) (by kernel_rfl) (fun _ _ _ h => h) (Or.inl ⟨by kernel_rfl, ?_⟩) hHeld ?_
          · intro w hSw; obtain ⟨s1, s2, s3⟩ := hSw; have q1 := s1.ref.c4; have q2 := s2.n; clear s1 s2 s3; go_simp
          (try simp only [Act.put, List.setIfInBounds_toArray, List.set_cons_zero, List.set_cons_succ])
          refine take_at (i := 8) (d := some 146) (v := .bool false) rfl rfl (by kernel_rfl) (by kernel_rfl) (by kernel_rfl) (fun _ _ _ h => h) (Or.inl ⟨by kernel_rfl, ?_⟩) hHeld ?_
          · intro w hSw; obtain ⟨s1, s2, s3⟩ := hSw; have q1 := s1.ref.c4; have q2 := s2.n; clear s1 s2 s3; go_simp
          (try simp only [Act.put, List.setIfInBounds_toArray, List.set_cons_zero, List.set_cons_succ])
          refine take_at (i := 9) (d := some 147) (v := .bool false) rfl rfl (by kernel_rfl) (by kernel_rfl) (by kernel_rfl) (fun _ _ _ h => h) (Or.inl ⟨by kernel_rfl, ?_⟩) hHeld ?_
          · intro w hSw; obtain ⟨s1, s2, s3⟩ := hSw; have q1 := s1.ref.c4; have q2 := s2.n; clear s1 s2 s3; go_simp
          (try simp only [Act.put, List.setIfInBounds_toArray, List.set_cons_zero, List.set_cons_succ])
          refine take_at (i := 10) (d := some 148) (v := .pointer (some ⟨d, 0, none⟩)) rfl rfl (by kernel_rfl) (by kernel_rfl) (by kernel_rfl) (fun _ _ _ h => h) (Or.inl ⟨by kernel_rfl, ?_⟩) hHeld ?_
          · intro w hSw; obtain ⟨s1, s2, s3⟩ := hSw; have q1 := s1.ref.c4; have q2 := s2.n; clear s1 s2 s3; go_simp
          (try simp only [Act.put, List.setIfInBounds_toArray, List.set_cons_zero, List.set_cons_succ])
          refine take_at (i := 12) (d := some 150) (v := .pointer (some ⟨r, 0, none⟩)) rfl rfl (by kernel_rfl) (by kernel_rfl) (by kernel_rfl) (fun _ _ _ h => h) (Or.inl ⟨by kernel_rfl, ?_⟩) hHeld ?_
          · intro w hSw; obtain ⟨s1, s2, s3⟩ := hSw; have q1 := s1.ref.c4; have q2 := s2.n; clear s1 s2 s3; go_simp
          (try simp only [Act.put, List.setIfInBounds_toArray, List.set_cons_zero, List.set_cons_succ])
          refine wpAnyH_ready (rs := [11]) (by kernel_rfl) (by simp) ?_
          refine AllReadyH.cons rfl (fun K hK => ?_) AllReadyH.nil
          go_simp
          (go_at_call 21; refine (cached_any hHeld.1.disk).mono ?_; rintro e w' ⟨rfl, rfl⟩)
          (try go_wp2_with fail)
          refine hK.out _ _ hHeld (fun hHeld => ?_)
          clear hK K
          (try simp only [Act.put, List.setIfInBounds_toArray, List.set_cons_zero, List.set_cons_succ])
          refine wpAnyH_ready (rs := [13]) (by kernel_rfl) (by simp) ?_
          refine AllReadyH.cons rfl (fun K hK => ?_) AllReadyH.nil
          go_simp
          (go_at_call 22; refine (rcached_any hHeld.1.ref).mono ?_; rintro e w' ⟨rfl, rfl⟩)
          (try go_wp2_with fail)
          refine hK.out _ _ hHeld (fun hHeld => ?_)
          clear hK K
          (try simp only [Act.put, List.setIfInBounds_toArray, List.set_cons_zero, List.set_cons_succ])
          refine take_at (i := 14) (d := some 152) (v := .bool false) rfl rfl (by kernel_rfl) (by kernel_rfl) (by kernel_rfl) (fun _ _ _ h => h) (Or.inl ⟨by kernel_rfl, ?_⟩) hHeld ?_
          · intro w hSw; obtain ⟨s1, s2, s3⟩ := hSw; have q1 := s1.ref.c4; have q2 := s2.n; clear s1 s2 s3; go_simp
          (try simp only [Act.put, List.setIfInBounds_toArray, List.set_cons_zero, List.set_cons_succ])
          refine take_at (i := 15) (d := some 153) (v := .bool false) rfl rfl (by kernel_rfl) (by kernel_rfl) (by kernel_rfl) (fun _ _ _ h => h) (Or.inl ⟨by kernel_rfl, ?_⟩) hHeld ?_
          · intro w hSw; obtain ⟨s1, s2, s3⟩ := hSw; have q1 := s1.ref.c4; have q2 := s2.n; clear s1 s2 s3; go_simp
          (try simp only [Act.put, List.setIfInBounds_toArray, List.set_cons_zero, List.set_cons_succ])
          refine take_at (i := 16) (d := some 154) (v := .bool false) rfl rfl (by kernel_rfl) (by kernel_rfl) (by kernel_rfl) (fun _ _ _ h => h) (Or.inl ⟨by kernel_rfl, ?_⟩) hHeld ?_
          · intro w hSw; obtain ⟨s1, s2, s3⟩ := hSw; have q1 := s1.ref.c4; have q2 := s2.n; clear s1 s2 s3; go_simp
          (try simp only [Act.put, List.setIfInBounds_toArray, List.set_cons_zero, List.set_cons_succ])
          refine take_at (i := 17) (d := some 155) (v := .pointer (some ⟨d, 0, none⟩)) rfl rfl (by kernel_rfl) (by kernel_rfl) (by kernel_rfl) (fun _ _ _ h => h) (Or.inl ⟨by kernel_rfl, ?_⟩) hHeld ?_
          · intro w hSw; obtain ⟨s1, s2, s3⟩ := hSw; have q1 := s1.ref.c4; have q2 := s2.n; clear s1 s2 s3; go_simp
          (try simp only [Act.put, List.setIfInBounds_toArray, List.set_cons_zero, List.set_cons_succ])
          refine take_at (i := 19) (d := some 157) (v := .pointer (some ⟨r, 0, none⟩)) rfl rfl (by kernel_rfl) (by kernel_rfl) (by kernel_rfl) (fun _ _ _ h => h) (Or.inl ⟨by kernel_rfl, ?_⟩) hHeld ?_
          · intro w hSw; obtain ⟨s1, s2, s3⟩ := hSw; have q1 := s1.ref.c4; have q2 := s2.n; clear s1 s2 s3; go_simp
          (try simp only [Act.put, List.setIfInBounds_toArray, List.set_cons_zero, List.set_cons_succ])
          refine take_at (i := 20) (d := some 158) (v := .pointer (some ⟨r, 0, none⟩)) rfl rfl (by kernel_rfl) (by kernel_rfl) (by kernel_rfl) (fun _ _ _ h => h) (Or.inl ⟨by kernel_rfl, ?_⟩) hHeld ?_
          · intro w hSw; obtain ⟨s1, s2, s3⟩ := hSw; have q1 := s1.ref.c4; have q2 := s2.n; clear s1 s2 s3; go_simp
          (try simp only [Act.put, List.setIfInBounds_toArray, List.set_cons_zero, List.set_cons_succ])
          refine take_at (i := 21) (d := some 159) (v := .pointer (some ⟨r, 4, none⟩)) rfl rfl (by kernel_rfl) (by kernel_rfl) (by kernel_rfl) (fun _ _ _ h => h) (Or.inl ⟨by kernel_rfl, ?_⟩) hHeld ?_
          · intro w hSw; obtain ⟨s1, s2, s3⟩ := hSw; have q1 := s1.ref.c4; have q2 := s2.n; clear s1 s2 s3; go_simp
          (try simp only [Act.put, List.setIfInBounds_toArray, List.set_cons_zero, List.set_cons_succ])
          refine take_at (i := 22) (d := some 160) (v := .bool s.down) rfl rfl (by kernel_rfl) (by kernel_rfl) (by kernel_rfl) (fun _ _ _ h => h) (Or.inl ⟨by kernel_rfl, ?_⟩) hHeld ?_
          · intro w hSw; obtain ⟨s1, s2, s3⟩ := hSw; have q1 := s1.ref.c4; have q2 := s2.n; clear s1 s2 s3; go_simp
          (try simp only [Act.put, List.setIfInBounds_toArray, List.set_cons_zero, List.set_cons_succ])
          refine wpAnyH_ready (rs := [18]) (by kernel_rfl) (by simp) ?_
          refine AllReadyH.cons rfl (fun K hK => ?_) AllReadyH.nil
          go_simp
          (go_at_call 23; refine (down_any hHeld.1.disk).mono ?_; rintro e w' ⟨rfl, rfl⟩)
          (try go_wp2_with fail)
          refine hK.out _ _ hHeld (fun hHeld => ?_)
          clear hK K
          (try simp only [Act.put, List.setIfInBounds_toArray, List.set_cons_zero, List.set_cons_succ])
          refine take_at (i := 23) (d := some 161) (v := .bool false) rfl rfl (by kernel_rfl) (by kernel_rfl) (by kernel_rfl) (fun _ _ _ h => h) (Or.inl ⟨by kernel_rfl, ?_⟩) hHeld ?_
          · intro w hSw; obtain ⟨s1, s2, s3⟩ := hSw; have q1 := s1.ref.c4; have q2 := s2.n; clear s1 s2 s3; go_simp
          (try simp only [Act.put, List.setIfInBounds_toArray, List.set_cons_zero, List.set_cons_succ])
          refine take_at (i := 24) (d := some 162) (v := .bool false) rfl rfl (by kernel_rfl) (by kernel_rfl) (by kernel_rfl) (fun _ _ _ h => h) (Or.inl ⟨by kernel_rfl, ?_⟩) hHeld ?_
          · intro w hSw; obtain ⟨s1, s2, s3⟩ := hSw; have q1 := s1.ref.c4; have q2 := s2.n; clear s1 s2 s3; go_simp
          (try simp only [Act.put, List.setIfInBounds_toArray, List.set_cons_zero, List.set_cons_succ])
          refine take_at (i := 25) (d := some 163) (v := .bool false) rfl rfl (by kernel_rfl) (by kernel_rfl) (by kernel_rfl) (fun _ _ _ h => h) (Or.inl ⟨by kernel_rfl, ?_⟩) hHeld ?_
          · intro w hSw; obtain ⟨s1, s2, s3⟩ := hSw; have q1 := s1.ref.c4; have q2 := s2.n; clear s1 s2 s3; go_simp
          (try simp only [Act.put, List.setIfInBounds_toArray, List.set_cons_zero, List.set_cons_succ])
          refine take_at (i := 26) (d := some 164) (v := .pointer (some ⟨d, 0, none⟩)) rfl rfl (by kernel_rfl) (by kernel_rfl) (by kernel_rfl) (fun _ _ _ h => h) (Or.inl ⟨by kernel_rfl, ?_⟩) hHeld ?_
          · intro w hSw; obtain ⟨s1, s2, s3⟩ := hSw; have q1 := s1.ref.c4; have q2 := s2.n; clear s1 s2 s3; go_simp
          (try simp only [Act.put, List.setIfInBounds_toArray, List.set_cons_zero, List.set_cons_succ])
          refine take_at (i := 27) (d := some 165) (v := .pointer (some ⟨B, 1, none⟩)) rfl rfl (by kernel_rfl) (by kernel_rfl) (by kernel_rfl) (fun _ _ _ h => h) (Or.inl ⟨by kernel_rfl, ?_⟩) hHeld ?_
          · intro w hSw; obtain ⟨s1, s2, s3⟩ := hSw; have q1 := s1.ref.c4; have q2 := s2.n; clear s1 s2 s3; go_simp
          (try simp only [Act.put, List.setIfInBounds_toArray, List.set_cons_zero, List.set_cons_succ])
          refine take_at (i := 28) (d := some 166) (v := .int .i64 o.N) rfl rfl (by kernel_rfl) (by kernel_rfl) (by kernel_rfl) (fun _ _ _ h => h) (Or.inl ⟨by kernel_rfl, ?_⟩) hHeld ?_
          · intro w hSw; obtain ⟨s1, s2, s3⟩ := hSw; have q1 := s1.ref.c4; have q2 := s2.n; clear s1 s2 s3; go_simp
          (try simp only [Act.put, List.setIfInBounds_toArray, List.set_cons_zero, List.set_cons_succ])
          refine take_at (i := 30) (d := some 168) (v := pageV P) rfl rfl (by kernel_rfl) (by kernel_rfl) (by kernel_rfl) (fun _ _ _ h => h) (yields_page (by kernel_rfl) (.tmp 16) rfl rfl HPP.out (fun _ hSw => hSw.2.2.range)) hHeld ?_
          (try simp only [Act.put, List.setIfInBounds_toArray, List.set_cons_zero, List.set_cons_succ])
          refine wpAnyH_ready (rs := [29]) (by kernel_rfl) (by simp) ?_
          refine AllReadyH.cons rfl (fun K hK => ?_) AllReadyH.nil
          go_simp
          (go_at_call 24; refine (HC2.out _ hHeld.1).mono ?_; rintro e w9 ⟨rfl, hb9⟩)
          (try go_wp2_with fail)
          refine hK.out _ _ ⟨hHeld.1.byBelow hb9, hHeld.2.1.byBelow hb9, hHeld.2.2.below hb9 hHeld.2.2.lt⟩ (fun hHeld => ?_)
          clear hK K
          (try simp only [Act.put, List.setIfInBounds_toArray, List.set_cons_zero, List.set_cons_succ])
          refine take_at (i := 31) (d := some 169) (v := .bool false) rfl rfl (by kernel_rfl) (by kernel_rfl) (by kernel_rfl) (fun _ _ _ h => h) (Or.inl ⟨by kernel_rfl, ?_⟩) hHeld ?_
          · intro w hSw; obtain ⟨s1, s2, s3⟩ := hSw; have q1 := s1.ref.c4; have q2 := s2.n; clear s1 s2 s3; go_simp
          (try simp only [Act.put, List.setIfInBounds_toArray, List.set_cons_zero, List.set_cons_succ])
          refine take_at (i := 32) (d := some 170) (v := .bool false) rfl rfl (by kernel_rfl) (by kernel_rfl) (by kernel_rfl) (fun _ _ _ h => h) (Or.inl ⟨by kernel_rfl, ?_⟩) hHeld ?_
          · intro w hSw; obtain ⟨s1, s2, s3⟩ := hSw; have q1 := s1.ref.c4; have q2 := s2.n; clear s1 s2 s3; go_simp
          (try simp only [Act.put, List.setIfInBounds_toArray, List.set_cons_zero, List.set_cons_succ])
          refine wpAnyH_done (by kernel_rfl) ?_ _
          refine NoPanic.normal ?_
          go_wp2
          go_roundw
          case rel => exact ⟨k + 1, s, by omega, by go_num, hHeld.1⟩
          case measure => simp [intOf]; omega
        · have t1' : 0 ≤ o.N := by omega
          by_cases t2 : o.N < (n : Int)
          · obtain ⟨k2, hk2⟩ := Int.eq_ofNat_of_zero_le t1'
            have hk2n : k2 < s.last.length := by rw [HP7.out.slen]; omega
            obtain ⟨P, hP⟩ : ∃ P, s.last[k2]? = some P := ⟨_, List.getElem?_eq_getElem hk2n⟩
            have HPQ : Hid (Dk.lastsP s o.N = P) := Lib.hid (by unfold Dk.lastsP Dk.lastAt; rw [hk2, if_pos (Dk.has_mk hk2n), Int.toNat_natCast, List.getD_eq_getElem?_getD, hP]; rfl)
            have HPP := Lib.hid (HP7.out.disk.ok.pages P (List.mem_of_getElem? hP))
            have HPI := Lib.hid hP
            have HK2 := Lib.hid hk2
            clear hP hk2
            refine wp_region_noPanic ?_
            refine wp_region_held_drew (S := fun W => PlayAt w d l m r a b c n s s W ∧ OpVar W B o ∧ PageAt W B16 zeros) (by kernel_rfl) ⟨HP7.out.byBelow (Below.refl _ _).drew, HV7.out.block rfl, HQ7.out.drew⟩ (fun hHeld => ?_)
            refine take_at (i := 0) (d := some 117) (v := .pointer (some ⟨B, 1, none⟩)) rfl rfl (by kernel_rfl) (by kernel_rfl) (by kernel_rfl) (fun _ _ _ h => h) (Or.inl ⟨by kernel_rfl, ?_⟩) hHeld ?_
            · intro w hSw; obtain ⟨s1, s2, s3⟩ := hSw; have q1 := s1.ref.c0; rw [s1.tlen] at q1; have q2 := s2.n; clear s1 s2 s3; go_simp
            (try simp only [Act.put, List.setIfInBounds_toArray, List.set_cons_zero, List.set_cons_succ])
            refine take_at (i := 1) (d := some 118) (v := .int .i64 o.N) rfl rfl (by kernel_rfl) (by kernel_rfl) (by kernel_rfl) (fun _ _ _ h => h) (Or.inl ⟨by kernel_rfl, ?_⟩) hHeld ?_
            · intro w hSw; obtain ⟨s1, s2, s3⟩ := hSw; have q1 := s1.ref.c0; rw [s1.tlen] at q1; have q2 := s2.n; clear s1 s2 s3; go_simp
            (try simp only [Act.put, List.setIfInBounds_toArray, List.set_cons_zero, List.set_cons_succ])
            refine take_at (i := 2) (d := some 119) (v := .bool true) rfl rfl (by kernel_rfl) (by kernel_rfl) (by kernel_rfl) (fun _ _ _ h => h) (Or.inl ⟨by kernel_rfl, ?_⟩) hHeld ?_
            · intro w hSw; obtain ⟨s1, s2, s3⟩ := hSw; have q1 := s1.ref.c0; rw [s1.tlen] at q1; have q2 := s2.n; clear s1 s2 s3; go_simp
            (try simp only [Act.put, List.setIfInBounds_toArray, List.set_cons_zero, List.set_cons_succ])
            refine take_at (i := 3) (d := some 120) (v := .bool true) rfl rfl (by kernel_rfl) (by kernel_rfl) (by kernel_rfl) (fun _ _ _ h => h) (Or.inl ⟨by kernel_rfl, ?_⟩) hHeld ?_
            · intro w hSw; obtain ⟨s1, s2, s3⟩ := hSw; have q1 := s1.ref.c0; rw [s1.tlen] at q1; have q2 := s2.n; clear s1 s2 s3; go_simp
            (try simp only [Act.put, List.setIfInBounds_toArray, List.set_cons_zero, List.set_cons_succ])
            refine take_at (i := 4) (d := some 121) (v := .pointer (some ⟨B, 1, none⟩)) rfl rfl (by kernel_rfl) (by kernel_rfl) (by kernel_rfl) (fun _ _ _ h => h) (Or.inl ⟨by kernel_rfl, ?_⟩) hHeld ?_
            · intro w hSw; obtain ⟨s1, s2, s3⟩ := hSw; have q1 := s1.ref.c0; rw [s1.tlen] at q1; have q2 := s2.n; clear s1 s2 s3; go_simp
            (try simp only [Act.put, List.setIfInBounds_toArray, List.set_cons_zero, List.set_cons_succ])
            refine take_at (i := 5) (d := some 122) (v := .int .i64 o.N) rfl rfl (by kernel_rfl) (by kernel_rfl) (by kernel_rfl) (fun _ _ _ h => h) (Or.inl ⟨by kernel_rfl, ?_⟩) hHeld ?_
            · intro w hSw; obtain ⟨s1, s2, s3⟩ := hSw; have q1 := s1.ref.c0; rw [s1.tlen] at q1; have q2 := s2.n; clear s1 s2 s3; go_simp
            (try simp only [Act.put, List.setIfInBounds_toArray, List.set_cons_zero, List.set_cons_succ])
            refine take_at (i := 6) (d := some 123) (v := .pointer (some ⟨r, 0, none⟩)) rfl rfl (by kernel_rfl) (by kernel_rfl) (by kernel_rfl) (fun _ _ _ h => h) (Or.inl ⟨by kernel_rfl, ?_⟩) hHeld ?_
            · intro w hSw; obtain ⟨s1, s2, s3⟩ := hSw; have q1 := s1.ref.c0; rw [s1.tlen] at q1; have q2 := s2.n; clear s1 s2 s3; go_simp
            (try simp only [Act.put, List.setIfInBounds_toArray, List.set_cons_zero, List.set_cons_succ])
            refine take_at (i := 7) (d := some 124) (v := .pointer (some ⟨r, 0, none⟩)) rfl rfl (by kernel_rfl) (by kernel_rfl) (by kernel_rfl) (fun _ _ _ h => h) (Or.inl ⟨by kernel_rfl, ?_⟩) hHeld ?_
            · intro w hSw; obtain ⟨s1, s2, s3⟩ := hSw; have q1 := s1.ref.c0; rw [s1.tlen] at q1; have q2 := s2.n; clear s1 s2 s3; go_simp
            (try simp only [Act.put, List.setIfInBounds_toArray, List.set_cons_zero, List.set_cons_succ])
            refine take_at (i := 8) (d := some 125) (v := .pointer (some ⟨r, 0, none⟩)) rfl rfl (by kernel_rfl) (by kernel_rfl) (by kernel_rfl) (fun _ _ _ h => h) (Or.inl ⟨by kernel_rfl, ?_⟩) hHeld ?_
            · intro w hSw; obtain ⟨s1, s2, s3⟩ := hSw; have q1 := s1.ref.c0; rw [s1.tlen] at q1; have q2 := s2.n; clear s1 s2 s3; go_simp
            (try simp only [Act.put, List.setIfInBounds_toArray, List.set_cons_zero, List.set_cons_succ])
            refine take_at (i := 9) (d := some 126) (v := .slice (some ⟨a, 0, none⟩) n n) rfl rfl (by kernel_rfl) (by kernel_rfl) (by kernel_rfl) (fun _ _ _ h => h) (Or.inl ⟨by kernel_rfl, ?_⟩) hHeld ?_
            · intro w hSw; obtain ⟨s1, s2, s3⟩ := hSw; have q1 := s1.ref.c0; rw [s1.tlen] at q1; have q2 := s2.n; clear s1 s2 s3; go_simp
            (try simp only [Act.put, List.setIfInBounds_toArray, List.set_cons_zero, List.set_cons_succ])
            refine take_at (i := 10) (d := some 127) (v := .int .i64 (n : Int)) rfl rfl (by kernel_rfl) (by kernel_rfl) (by kernel_rfl) (fun _ _ _ h => h) (Or.inl ⟨by kernel_rfl, ?_⟩) hHeld ?_
            · intro w hSw; obtain ⟨s1, s2, s3⟩ := hSw; have q1 := s1.ref.c0; rw [s1.tlen] at q1; have q2 := s2.n; clear s1 s2 s3; go_simp
            (try simp only [Act.put, List.setIfInBounds_toArray, List.set_cons_zero, List.set_cons_succ])
            refine take_at (i := 11) (d := some 128) (v := .bool true) rfl rfl (by kernel_rfl) (by kernel_rfl) (by kernel_rfl) (fun _ _ _ h => h) (Or.inl ⟨by kernel_rfl, ?_⟩) hHeld ?_
            · intro w hSw; obtain ⟨s1, s2, s3⟩ := hSw; have q1 := s1.ref.c0; rw [s1.tlen] at q1; have q2 := s2.n; clear s1 s2 s3; go_simp
            (try simp only [Act.put, List.setIfInBounds_toArray, List.set_cons_zero, List.set_cons_succ])
            refine take_at (i := 12) (d := some 129) (v := .bool true) rfl rfl (by kernel_rfl) (by kernel_rfl) (by kernel_rfl) (fun _ _ _ h => h) (Or.inl ⟨by kernel_rfl, ?_⟩) hHeld ?_
            · intro w hSw; obtain ⟨s1, s2, s3⟩ := hSw; have q1 := s1.ref.c0; rw [s1.tlen] at q1; have q2 := s2.n; clear s1 s2 s3; go_simp
            (try simp only [Act.put, List.setIfInBounds_toArray, List.set_cons_zero, List.set_cons_succ])
            refine wpAnyH_done (by kernel_rfl) ?_ _
            refine NoPanic.normal ?_
            go_wp2_with fail
            have HSS0 := Lib.hid hHeld
            have y0 : W7.drew.drew.cell? ⟨r, 0, none⟩ = some (.slice (some ⟨a, 0, none⟩) n n) := by
              have := hHeld.1.ref.c0
              rw [hHeld.1.tlen] at this
              exact this
            have y1 : W7.drew.drew.cell? ⟨B, 1, none⟩ = some (.int .i64 (k2 : Int)) := by
              have := hHeld.2.1.n
              rw [HK2.out] at this
              exact this
            have y2 : (k2 : Int) < (n : Int) := by have := HK2.out; omega
            have y3 : (0 : Int) ≤ (k2 : Int) := by omega
            clear hHeld t1 t1' t2 hlo hhi hk2n
            refine wp_region_still_tail 8 (by kernel_rfl) (by kernel_rfl) ?_
            simp only [List.take_succ_cons, List.take_zero, List.drop_succ_cons, List.drop_zero]
            change wpStill _ _ W7.drew.drew (fun a' => wpList _ _ _ _ a' W7.drew.drew) _ _
            still_step
            still_step
            still_step
            still_step
            still_step
            still_step
            still_step
            refine wpStill_load_row (HSS0.out.1.ref.rows.block (w' := W7.drew.drew) rfl) k2 HPI.out rfl (.tmp 136) rfl rfl ?_
            refine wpStill_nil ?_
            refine wpList_store_page HSS0.out.2.2.drew HPP.out rfl (.tmp 16) (.tmp 137) rfl rfl rfl ?_
            have HONL : Hid (Only [B16] W7.drew (W7.drew.drew.setCells B16 0 (byteVals P))) := Lib.hid (Only.setCells B16 (by simp) _ _ _ (Only.refl _ _).drew)
            have HSS1 : Hid (PlayAt w d l m r a b c n s s (W7.drew.drew.setCells B16 0 (byteVals P)) ∧ OpVar (W7.drew.drew.setCells B16 0 (byteVals P)) B o ∧ PageAt (W7.drew.drew.setCells B16 0 (byteVals P)) B16 P) := Lib.hid ⟨HSS0.out.1.byOther HONL.out HB16.out.1 HB16.out.2.1, HSS0.out.2.1.byOnly HONL.out (by simpa using HB16.out.2.2), HSS0.out.2.2.drew.put P HPP.out⟩
            generalize W7.drew.drew.setCells B16 0 (byteVals P) = W9 at HSS1 ⊢
            clear HSS0 HONL y0 y1 y2 y3
            go_wp2_with fail
            have HSS : Hid (_ ∧ _ ∧ _) := Lib.hid ⟨HSS1.out.1.byBelow (Below.refl _ _).drew, HSS1.out.2.1.block (W' := W9.drew) rfl, HSS1.out.2.2.drew⟩

            have HC1 : Hid (∀ W, PlayAt w d l m r a b c n s s W → Calls Try.prog 20 #[.pointer (some ⟨d, 0, none⟩)] W fun e w' => e = .returned (.int .i64 (n : Int)) ∧ W = w') := Lib.hid (fun W hW => by
              have := pages_any hW.disk
              rw [hW.slen] at this
              exact this)
            have HC2 : Hid (∀ W, PlayAt w d l m r a b c n s s W → Calls Try.prog 24 #[.pointer (some ⟨d, 0, none⟩), .int .i64 o.N] W fun e w' => e = .returned (pageV P) ∧ Below W.heap.size W w') := Lib.hid (fun W hW => by
              have := lasts_any hW.disk o.N
              rw [HPQ.out] at this
              exact this)
            have HN1 := fun (x y : Operand) (w : World) => run_neGuard_page w x y P P
            have HN2 := fun (w : World) => run_neq_same w P HPP.out
            refine wp_region_noPanic ?_
            refine wp_region_held_drew (S := fun W => PlayAt w d l m r a b c n s s W ∧ OpVar W B o ∧ PageAt W B16 P) (by kernel_rfl) HSS.out (fun hHeld => ?_)
            refine take_at (i := 0) (d := some 138) (v := .int .i64 E) rfl rfl (by kernel_rfl) (by kernel_rfl) (by kernel_rfl) (fun _ _ _ h => h) (Or.inl ⟨by kernel_rfl, ?_⟩) hHeld ?_
            · intro w hSw; obtain ⟨s1, s2, s3⟩ := hSw; have q1 := s1.ref.c4; have q2 := s2.n; clear s1 s2 s3; go_simp
            (try simp only [Act.put, List.setIfInBounds_toArray, List.set_cons_zero, List.set_cons_succ])
            refine take_at (i := 1) (d := some 139) (v := .int .i64 E) rfl rfl (by kernel_rfl) (by kernel_rfl) (by kernel_rfl) (fun _ _ _ h => h) (Or.inl ⟨by kernel_rfl, ?_⟩) hHeld ?_
            · intro w hSw; obtain ⟨s1, s2, s3⟩ := hSw; have q1 := s1.ref.c4; have q2 := s2.n; clear s1 s2 s3; go_simp
            (try simp only [Act.put, List.setIfInBounds_toArray, List.set_cons_zero, List.set_cons_succ])
            refine take_at (i := 2) (d := some 140) (v := .bool false) rfl rfl (by kernel_rfl) (by kernel_rfl) (by kernel_rfl) (fun _ _ _ h => h) (Or.inl ⟨by kernel_rfl, ?_⟩) hHeld ?_
            · intro w hSw; obtain ⟨s1, s2, s3⟩ := hSw; have q1 := s1.ref.c4; have q2 := s2.n; clear s1 s2 s3; go_simp
            (try simp only [Act.put, List.setIfInBounds_toArray, List.set_cons_zero, List.set_cons_succ])
            refine take_at (i := 3) (d := some 141) (v := .bool false) rfl rfl (by kernel_rfl) (by kernel_rfl) (by kernel_rfl) (fun _ _ _ h => h) (Or.inl ⟨by kernel_rfl, ?_⟩) hHeld ?_
            · intro w hSw; obtain ⟨s1, s2, s3⟩ := hSw; have q1 := s1.ref.c4; have q2 := s2.n; clear s1 s2 s3; go_simp
            (try simp only [Act.put, List.setIfInBounds_toArray, List.set_cons_zero, List.set_cons_succ])
            refine take_at (i := 4) (d := some 142) (v := .pointer (some ⟨d, 0, none⟩)) rfl rfl (by kernel_rfl) (by kernel_rfl) (by kernel_rfl) (fun _ _ _ h => h) (Or.inl ⟨by kernel_rfl, ?_⟩) hHeld ?_
            · intro w hSw; obtain ⟨s1, s2, s3⟩ := hSw; have q1 := s1.ref.c4; have q2 := s2.n; clear s1 s2 s3; go_simp
            (try simp only [Act.put, List.setIfInBounds_toArray, List.set_cons_zero, List.set_cons_succ])
            refine take_at (i := 6) (d := some 144) (v := .int .i64 (n : Int)) rfl rfl (by kernel_rfl) (by kernel_rfl) (by kernel_rfl) (fun _ _ _ h => h) (Or.inl ⟨by kernel_rfl, ?_⟩) hHeld ?_
            · intro w hSw; obtain ⟨s1, s2, s3⟩ := hSw; have q1 := s1.ref.c4; have q2 := s2.n; clear s1 s2 s3; go_simp
            (try simp only [Act.put, List.setIfInBounds_toArray, List.set_cons_zero, List.set_cons_succ])
            refine wpAnyH_ready (rs := [5]) (by kernel_rfl) (by simp) ?_
            refine AllReadyH.cons rfl (fun K hK => ?_) AllReadyH.nil
            go_simp
            (go_at_call 20; refine (HC1.out _ hHeld.1).mono ?_; rintro e w' ⟨rfl, rfl⟩)
            (try go_wp2_with fail)
            refine hK.out _ _ hHeld (fun hHeld => ?_)
            clear hK K
            (try simp only [Act.put, List.setIfInBounds_toArray, List.set_cons_zero, List.set_cons_succ])
            refine take_at (i := 7) (d := some 145) (v := .bool false) rfl rfl (by kernel_rfl) (by kernel_rfl) (by kernel_rfl) (fun _ _ _ h => h) (Or.inl ⟨by kernel_rfl, ?_⟩) hHeld ?_
            · intro w hSw; obtain ⟨s1, s2, s3⟩ := hSw; have q1 := s1.ref.c4; have q2 := s2.n; clear s1 s2 s3; go_simp
            (try simp only [Act.put, List.setIfInBounds_toArray, List.set_cons_zero, List.set_cons_succ])
            refine take_at (i := 8) (d := some 146) (v := .bool false) rfl rfl (by kernel_rfl) (by kernel_rfl) (by kernel_rfl) (fun _ _ _ h => h) (Or.inl ⟨by kernel_rfl, ?_⟩) hHeld ?_
            · intro w hSw; obtain ⟨s1, s2, s3⟩ := hSw; have q1 := s1.ref.c4; have q2 := s2.n; clear s1 s2 s3; go_simp
            (try simp only [Act.put, List.setIfInBounds_toArray, List.set_cons_zero, List.set_cons_succ])
            refine take_at (i := 9) (d := some 147) (v := .bool false) rfl rfl (by kernel_rfl) (by kernel_rfl) (by kernel_rfl) (fun _ _ _ h => h) (Or.inl ⟨by kernel_rfl, ?_⟩) hHeld ?_
            · intro w hSw; obtain ⟨s1, s2, s3⟩ := hSw; have q1 := s1.ref.c4; have q2 := s2.n; clear s1 s2 s3; go_simp
            (try simp only [Act.put, List.setIfInBounds_toArray, List.set_cons_zero, List.set_cons_succ])
            refine take_at (i := 10) (d := some 148) (v := .pointer (some ⟨d, 0, none⟩)) rfl rfl (by kernel_rfl) (by kernel_rfl) (by kernel_rfl) (fun _ _ _ h => h) (Or.inl ⟨by kernel_rfl, ?_⟩) hHeld ?_
            · intro w hSw; obtain ⟨s1, s2, s3⟩ := hSw; have q1 := s1.ref.c4; have q2 := s2.n; clear s1 s2 s3; go_simp
            (try simp only [Act.put, List.setIfInBounds_toArray, List.set_cons_zero, List.set_cons_succ])
            refine take_at (i := 12) (d := some 150) (v := .pointer (some ⟨r, 0, none⟩)) rfl rfl (by kernel_rfl) (by kernel_rfl) (by kernel_rfl) (fun _ _ _ h => h) (Or.inl ⟨by kernel_rfl, ?_⟩) hHeld ?_
            · intro w hSw; obtain ⟨s1, s2, s3⟩ := hSw; have q1 := s1.ref.c4; have q2 := s2.n; clear s1 s2 s3; go_simp
            (try simp only [Act.put, List.setIfInBounds_toArray, List.set_cons_zero, List.set_cons_succ])
            refine wpAnyH_ready (rs := [11]) (by kernel_rfl) (by simp) ?_
            refine AllReadyH.cons rfl (fun K hK => ?_) AllReadyH.nil
            go_simp
            (go_at_call 21; refine (cached_any hHeld.1.disk).mono ?_; rintro e w' ⟨rfl, rfl⟩)
            (try go_wp2_with fail)
            refine hK.out _ _ hHeld (fun hHeld => ?_)
            clear hK K
            (try simp only [Act.put, List.setIfInBounds_toArray, List.set_cons_zero, List.set_cons_succ])
            refine wpAnyH_ready (rs := [13]) (by kernel_rfl) (by simp) ?_
            refine AllReadyH.cons rfl (fun K hK => ?_) AllReadyH.nil
            go_simp
            (go_at_call 22; refine (rcached_any hHeld.1.ref).mono ?_; rintro e w' ⟨rfl, rfl⟩)
            (try go_wp2_with fail)
            refine hK.out _ _ hHeld (fun hHeld => ?_)
            clear hK K
            (try simp only [Act.put, List.setIfInBounds_toArray, List.set_cons_zero, List.set_cons_succ])
            refine take_at (i := 14) (d := some 152) (v := .bool false) rfl rfl (by kernel_rfl) (by kernel_rfl) (by kernel_rfl) (fun _ _ _ h => h) (Or.inl ⟨by kernel_rfl, ?_⟩) hHeld ?_
            · intro w hSw; obtain ⟨s1, s2, s3⟩ := hSw; have q1 := s1.ref.c4; have q2 := s2.n; clear s1 s2 s3; go_simp
            (try simp only [Act.put, List.setIfInBounds_toArray, List.set_cons_zero, List.set_cons_succ])
            refine take_at (i := 15) (d := some 153) (v := .bool false) rfl rfl (by kernel_rfl) (by kernel_rfl) (by kernel_rfl) (fun _ _ _ h => h) (Or.inl ⟨by kernel_rfl, ?_⟩) hHeld ?_
            · intro w hSw; obtain ⟨s1, s2, s3⟩ := hSw; have q1 := s1.ref.c4; have q2 := s2.n; clear s1 s2 s3; go_simp
            (try simp only [Act.put, List.setIfInBounds_toArray, List.set_cons_zero, List.set_cons_succ])
            refine take_at (i := 16) (d := some 154) (v := .bool false) rfl rfl (by kernel_rfl) (by kernel_rfl) (by kernel_rfl) (fun _ _ _ h => h) (Or.inl ⟨by kernel_rfl, ?_⟩) hHeld ?_
            · intro w hSw; obtain ⟨s1, s2, s3⟩ := hSw; have q1 := s1.ref.c4; have q2 := s2.n; clear s1 s2 s3; go_simp
            (try simp only [Act.put, List.setIfInBounds_toArray, List.set_cons_zero, List.set_cons_succ])
            refine take_at (i := 17) (d := some 155) (v := .pointer (some ⟨d, 0, none⟩)) rfl rfl (by kernel_rfl) (by kernel_rfl) (by kernel_rfl) (fun _ _ _ h => h) (Or.inl ⟨by kernel_rfl, ?_⟩) hHeld ?_
            · intro w hSw; obtain ⟨s1, s2, s3⟩ := hSw; have q1 := s1.ref.c4; have q2 := s2.n; clear s1 s2 s3; go_simp
            (try simp only [Act.put, List.setIfInBounds_toArray, List.set_cons_zero, List.set_cons_succ])
            refine take_at (i := 19) (d := some 157) (v := .pointer (some ⟨r, 0, none⟩)) rfl rfl (by kernel_rfl) (by kernel_rfl) (by kernel_rfl) (fun _ _ _ h => h) (Or.inl ⟨by kernel_rfl, ?_⟩) hHeld ?_
            · intro w hSw; obtain ⟨s1, s2, s3⟩ := hSw; have q1 := s1.ref.c4; have q2 := s2.n; clear s1 s2 s3; go_simp
            (try simp only [Act.put, List.setIfInBounds_toArray, List.set_cons_zero, List.set_cons_succ])
            refine take_at (i := 20) (d := some 158) (v := .pointer (some ⟨r, 0, none⟩)) rfl rfl (by kernel_rfl) (by kernel_rfl) (by kernel_rfl) (fun _ _ _ h => h) (Or.inl ⟨by kernel_rfl, ?_⟩) hHeld ?_
            · intro w hSw; obtain ⟨s1, s2, s3⟩ := hSw; have q1 := s1.ref.c4; have q2 := s2.n; clear s1 s2 s3; go_simp
            (try simp only [Act.put, List.setIfInBounds_toArray, List.set_cons_zero, List.set_cons_succ])
            refine take_at (i := 21) (d := some 159) (v := .pointer (some ⟨r, 4, none⟩)) rfl rfl (by kernel_rfl) (by kernel_rfl) (by kernel_rfl) (fun _ _ _ h => h) (Or.inl ⟨by kernel_rfl, ?_⟩) hHeld ?_
            · intro w hSw; obtain ⟨s1, s2, s3⟩ := hSw; have q1 := s1.ref.c4; have q2 := s2.n; clear s1 s2 s3; go_simp
            (try simp only [Act.put, List.setIfInBounds_toArray, List.set_cons_zero, List.set_cons_succ])
            refine take_at (i := 22) (d := some 160) (v := .bool s.down) rfl rfl (by kernel_rfl) (by kernel_rfl) (by kernel_rfl) (fun _ _ _ h => h) (Or.inl ⟨by kernel_rfl, ?_⟩) hHeld ?_
            · intro w hSw; obtain ⟨s1, s2, s3⟩ := hSw; have q1 := s1.ref.c4; have q2 := s2.n; clear s1 s2 s3; go_simp
            (try simp only [Act.put, List.setIfInBounds_toArray, List.set_cons_zero, List.set_cons_succ])
            refine wpAnyH_ready (rs := [18]) (by kernel_rfl) (by simp) ?_
            refine AllReadyH.cons rfl (fun K hK => ?_) AllReadyH.nil
            go_simp
            (go_at_call 23; refine (down_any hHeld.1.disk).mono ?_; rintro e w' ⟨rfl, rfl⟩)
            (try go_wp2_with fail)
            refine hK.out _ _ hHeld (fun hHeld => ?_)
            clear hK K
            (try simp only [Act.put, List.setIfInBounds_toArray, List.set_cons_zero, List.set_cons_succ])
            refine take_at (i := 23) (d := some 161) (v := .bool false) rfl rfl (by kernel_rfl) (by kernel_rfl) (by kernel_rfl) (fun _ _ _ h => h) (Or.inl ⟨by kernel_rfl, ?_⟩) hHeld ?_
            · intro w hSw; obtain ⟨s1, s2, s3⟩ := hSw; have q1 := s1.ref.c4; have q2 := s2.n; clear s1 s2 s3; go_simp
            (try simp only [Act.put, List.setIfInBounds_toArray, List.set_cons_zero, List.set_cons_succ])
            refine take_at (i := 24) (d := some 162) (v := .bool false) rfl rfl (by kernel_rfl) (by kernel_rfl) (by kernel_rfl) (fun _ _ _ h => h) (Or.inl ⟨by kernel_rfl, ?_⟩) hHeld ?_
            · intro w hSw; obtain ⟨s1, s2, s3⟩ := hSw; have q1 := s1.ref.c4; have q2 := s2.n; clear s1 s2 s3; go_simp
            (try simp only [Act.put, List.setIfInBounds_toArray, List.set_cons_zero, List.set_cons_succ])
            refine take_at (i := 25) (d := some 163) (v := .bool false) rfl rfl (by kernel_rfl) (by kernel_rfl) (by kernel_rfl) (fun _ _ _ h => h) (Or.inl ⟨by kernel_rfl, ?_⟩) hHeld ?_
            · intro w hSw; obtain ⟨s1, s2, s3⟩ := hSw; have q1 := s1.ref.c4; have q2 := s2.n; clear s1 s2 s3; go_simp
            (try simp only [Act.put, List.setIfInBounds_toArray, List.set_cons_zero, List.set_cons_succ])
            refine take_at (i := 26) (d := some 164) (v := .pointer (some ⟨d, 0, none⟩)) rfl rfl (by kernel_rfl) (by kernel_rfl) (by kernel_rfl) (fun _ _ _ h => h) (Or.inl ⟨by kernel_rfl, ?_⟩) hHeld ?_
            · intro w hSw; obtain ⟨s1, s2, s3⟩ := hSw; have q1 := s1.ref.c4; have q2 := s2.n; clear s1 s2 s3; go_simp
            (try simp only [Act.put, List.setIfInBounds_toArray, List.set_cons_zero, List.set_cons_succ])
            refine take_at (i := 27) (d := some 165) (v := .pointer (some ⟨B, 1, none⟩)) rfl rfl (by kernel_rfl) (by kernel_rfl) (by kernel_rfl) (fun _ _ _ h => h) (Or.inl ⟨by kernel_rfl, ?_⟩) hHeld ?_
            · intro w hSw; obtain ⟨s1, s2, s3⟩ := hSw; have q1 := s1.ref.c4; have q2 := s2.n; clear s1 s2 s3; go_simp
            (try simp only [Act.put, List.setIfInBounds_toArray, List.set_cons_zero, List.set_cons_succ])
            refine take_at (i := 28) (d := some 166) (v := .int .i64 o.N) rfl rfl (by kernel_rfl) (by kernel_rfl) (by kernel_rfl) (fun _ _ _ h => h) (Or.inl ⟨by kernel_rfl, ?_⟩) hHeld ?_
            · intro w hSw; obtain ⟨s1, s2, s3⟩ := hSw; have q1 := s1.ref.c4; have q2 := s2.n; clear s1 s2 s3; go_simp
            (try simp only [Act.put, List.setIfInBounds_toArray, List.set_cons_zero, List.set_cons_succ])
            refine take_at (i := 30) (d := some 168) (v := pageV P) rfl rfl (by kernel_rfl) (by kernel_rfl) (by kernel_rfl) (fun _ _ _ h => h) (yields_page (by kernel_rfl) (.tmp 16) rfl rfl HPP.out (fun _ hSw => hSw.2.2.range)) hHeld ?_
            (try simp only [Act.put, List.setIfInBounds_toArray, List.set_cons_zero, List.set_cons_succ])
            refine wpAnyH_ready (rs := [29]) (by kernel_rfl) (by simp) ?_
            refine AllReadyH.cons rfl (fun K hK => ?_) AllReadyH.nil
            go_simp
            (go_at_call 24; refine (HC2.out _ hHeld.1).mono ?_; rintro e w9 ⟨rfl, hb9⟩)
            (try go_wp2_with fail)
            refine hK.out _ _ ⟨hHeld.1.byBelow hb9, hHeld.2.1.byBelow hb9, hHeld.2.2.below hb9 hHeld.2.2.lt⟩ (fun hHeld => ?_)
            clear hK K
            (try simp only [Act.put, List.setIfInBounds_toArray, List.set_cons_zero, List.set_cons_succ])
            refine take_at (i := 31) (d := some 169) (v := .bool false) rfl rfl (by kernel_rfl) (by kernel_rfl) (by kernel_rfl) (fun _ _ _ h => h) (Or.inl ⟨by kernel_rfl, ?_⟩) hHeld ?_
            · intro w hSw; obtain ⟨s1, s2, s3⟩ := hSw; have q1 := s1.ref.c4; have q2 := s2.n; clear s1 s2 s3; go_simp
            (try simp only [Act.put, List.setIfInBounds_toArray, List.set_cons_zero, List.set_cons_succ])
            refine take_at (i := 32) (d := some 170) (v := .bool false) rfl rfl (by kernel_rfl) (by kernel_rfl) (by kernel_rfl) (fun _ _ _ h => h) (Or.inl ⟨by kernel_rfl, ?_⟩) hHeld ?_
            · intro w hSw; obtain ⟨s1, s2, s3⟩ := hSw; have q1 := s1.ref.c4; have q2 := s2.n; clear s1 s2 s3; go_simp
            (try simp only [Act.put, List.setIfInBounds_toArray, List.set_cons_zero, List.set_cons_succ])
            refine wpAnyH_done (by kernel_rfl) ?_ _
            refine NoPanic.normal ?_
            go_wp2
            go_roundw
            case rel => exact ⟨k + 1, s, by omega, by go_num, hHeld.1⟩
            case measure => simp [intOf]; omega
          · have t2' : (n : Int) ≤ o.N := by omega
            have HPQ : Hid (Dk.lastsP s o.N = zeros) := Lib.hid (by unfold Dk.lastsP; rw [HP7.out.slen, if_neg (by unfold Dk.hasB; simp; omega)])
            have HPP := Lib.hid zeros_length
            refine wp_region_noPanic ?_
            refine wp_region_held_drew (S := fun W => PlayAt w d l m r a b c n s s W ∧ OpVar W B o ∧ PageAt W B16 zeros) (by kernel_rfl) ⟨HP7.out.byBelow (Below.refl _ _).drew, HV7.out.block rfl, HQ7.out.drew⟩ (fun hHeld => ?_)
            refine take_at (i := 0) (d := some 117) (v := .pointer (some ⟨B, 1, none⟩)) rfl rfl (by kernel_rfl) (by kernel_rfl) (by kernel_rfl) (fun _ _ _ h => h) (Or.inl ⟨by kernel_rfl, ?_⟩) hHeld ?_
            · intro w hSw; obtain ⟨s1, s2, s3⟩ := hSw; have q1 := s1.ref.c0; rw [s1.tlen] at q1; have q2 := s2.n; clear s1 s2 s3; go_simp
            (try simp only [Act.put, List.setIfInBounds_toArray, List.set_cons_zero, List.set_cons_succ])
            refine take_at (i := 1) (d := some 118) (v := .int .i64 o.N) rfl rfl (by kernel_rfl) (by kernel_rfl) (by kernel_rfl) (fun _ _ _ h => h) (Or.inl ⟨by kernel_rfl, ?_⟩) hHeld ?_
            · intro w hSw; obtain ⟨s1, s2, s3⟩ := hSw; have q1 := s1.ref.c0; rw [s1.tlen] at q1; have q2 := s2.n; clear s1 s2 s3; go_simp
            (try simp only [Act.put, List.setIfInBounds_toArray, List.set_cons_zero, List.set_cons_succ])
            refine take_at (i := 2) (d := some 119) (v := .bool true) rfl rfl (by kernel_rfl) (by kernel_rfl) (by kernel_rfl) (fun _ _ _ h => h) (Or.inl ⟨by kernel_rfl, ?_⟩) hHeld ?_
            · intro w hSw; obtain ⟨s1, s2, s3⟩ := hSw; have q1 := s1.ref.c0; rw [s1.tlen] at q1; have q2 := s2.n; clear s1 s2 s3; go_simp
            (try simp only [Act.put, List.setIfInBounds_toArray, List.set_cons_zero, List.set_cons_succ])
            refine take_at (i := 3) (d := some 120) (v := .bool true) rfl rfl (by kernel_rfl) (by kernel_rfl) (by kernel_rfl) (fun _ _ _ h => h) (Or.inl ⟨by kernel_rfl, ?_⟩) hHeld ?_
            · intro w hSw; obtain ⟨s1, s2, s3⟩ := hSw; have q1 := s1.ref.c0; rw [s1.tlen] at q1; have q2 := s2.n; clear s1 s2 s3; go_simp
            (try simp only [Act.put, List.setIfInBounds_toArray, List.set_cons_zero, List.set_cons_succ])
            refine take_at (i := 4) (d := some 121) (v := .pointer (some ⟨B, 1, none⟩)) rfl rfl (by kernel_rfl) (by kernel_rfl) (by kernel_rfl) (fun _ _ _ h => h) (Or.inl ⟨by kernel_rfl, ?_⟩) hHeld ?_
            · intro w hSw; obtain ⟨s1, s2, s3⟩ := hSw; have q1 := s1.ref.c0; rw [s1.tlen] at q1; have q2 := s2.n; clear s1 s2 s3; go_simp
            (try simp only [Act.put, List.setIfInBounds_toArray, List.set_cons_zero, List.set_cons_succ])
            refine take_at (i := 5) (d := some 122) (v := .int .i64 o.N) rfl rfl (by kernel_rfl) (by kernel_rfl) (by kernel_rfl) (fun _ _ _ h => h) (Or.inl ⟨by kernel_rfl, ?_⟩) hHeld ?_
            · intro w hSw; obtain ⟨s1, s2, s3⟩ := hSw; have q1 := s1.ref.c0; rw [s1.tlen] at q1; have q2 := s2.n; clear s1 s2 s3; go_simp
            (try simp only [Act.put, List.setIfInBounds_toArray, List.set_cons_zero, List.set_cons_succ])
            refine take_at (i := 6) (d := some 123) (v := .pointer (some ⟨r, 0, none⟩)) rfl rfl (by kernel_rfl) (by kernel_rfl) (by kernel_rfl) (fun _ _ _ h => h) (Or.inl ⟨by kernel_rfl, ?_⟩) hHeld ?_
            · intro w hSw; obtain ⟨s1, s2, s3⟩ := hSw; have q1 := s1.ref.c0; rw [s1.tlen] at q1; have q2 := s2.n; clear s1 s2 s3; go_simp
            (try simp only [Act.put, List.setIfInBounds_toArray, List.set_cons_zero, List.set_cons_succ])
            refine take_at (i := 7) (d := some 124) (v := .pointer (some ⟨r, 0, none⟩)) rfl rfl (by kernel_rfl) (by kernel_rfl) (by kernel_rfl) (fun _ _ _ h => h) (Or.inl ⟨by kernel_rfl, ?_⟩) hHeld ?_
            · intro w hSw; obtain ⟨s1, s2, s3⟩ := hSw; have q1 := s1.ref.c0; rw [s1.tlen] at q1; have q2 := s2.n; clear s1 s2 s3; go_simp
            (try simp only [Act.put, List.setIfInBounds_toArray, List.set_cons_zero, List.set_cons_succ])
            refine take_at (i := 8) (d := some 125) (v := .pointer (some ⟨r, 0, none⟩)) rfl rfl (by kernel_rfl) (by kernel_rfl) (by kernel_rfl) (fun _ _ _ h => h) (Or.inl ⟨by kernel_rfl, ?_⟩) hHeld ?_
            · intro w hSw; obtain ⟨s1, s2, s3⟩ := hSw; have q1 := s1.ref.c0; rw [s1.tlen] at q1; have q2 := s2.n; clear s1 s2 s3; go_simp
            (try simp only [Act.put, List.setIfInBounds_toArray, List.set_cons_zero, List.set_cons_succ])
            refine take_at (i := 9) (d := some 126) (v := .slice (some ⟨a, 0, none⟩) n n) rfl rfl (by kernel_rfl) (by kernel_rfl) (by kernel_rfl) (fun _ _ _ h => h) (Or.inl ⟨by kernel_rfl, ?_⟩) hHeld ?_
            · intro w hSw; obtain ⟨s1, s2, s3⟩ := hSw; have q1 := s1.ref.c0; rw [s1.tlen] at q1; have q2 := s2.n; clear s1 s2 s3; go_simp
            (try simp only [Act.put, List.setIfInBounds_toArray, List.set_cons_zero, List.set_cons_succ])
            refine take_at (i := 10) (d := some 127) (v := .int .i64 (n : Int)) rfl rfl (by kernel_rfl) (by kernel_rfl) (by kernel_rfl) (fun _ _ _ h => h) (Or.inl ⟨by kernel_rfl, ?_⟩) hHeld ?_
            · intro w hSw; obtain ⟨s1, s2, s3⟩ := hSw; have q1 := s1.ref.c0; rw [s1.tlen] at q1; have q2 := s2.n; clear s1 s2 s3; go_simp
            (try simp only [Act.put, List.setIfInBounds_toArray, List.set_cons_zero, List.set_cons_succ])
            refine take_at (i := 11) (d := some 128) (v := .bool false) rfl rfl (by kernel_rfl) (by kernel_rfl) (by kernel_rfl) (fun _ _ _ h => h) (Or.inl ⟨by kernel_rfl, ?_⟩) hHeld ?_
            · intro w hSw; obtain ⟨s1, s2, s3⟩ := hSw; have q1 := s1.ref.c0; rw [s1.tlen] at q1; have q2 := s2.n; clear s1 s2 s3; go_simp
            (try simp only [Act.put, List.setIfInBounds_toArray, List.set_cons_zero, List.set_cons_succ])
            refine take_at (i := 12) (d := some 129) (v := .bool false) rfl rfl (by kernel_rfl) (by kernel_rfl) (by kernel_rfl) (fun _ _ _ h => h) (Or.inl ⟨by kernel_rfl, ?_⟩) hHeld ?_
            · intro w hSw; obtain ⟨s1, s2, s3⟩ := hSw; have q1 := s1.ref.c0; rw [s1.tlen] at q1; have q2 := s2.n; clear s1 s2 s3; go_simp
            (try simp only [Act.put, List.setIfInBounds_toArray, List.set_cons_zero, List.set_cons_succ])
            refine wpAnyH_done (by kernel_rfl) ?_ _
            refine NoPanic.normal ?_
            go_wp2_with fail
            have HSS0 := Lib.hid hHeld
            generalize zeros = P at HPQ HPP HSS0
            have HSS : Hid (_ ∧ _ ∧ _) := Lib.hid ⟨HSS0.out.1.byBelow (Below.refl _ _).drew, HSS0.out.2.1.block (W' := W7.drew.drew) rfl, HSS0.out.2.2.drew⟩

            have HC1 : Hid (∀ W, PlayAt w d l m r a b c n s s W → Calls Try.prog 20 #[.pointer (some ⟨d, 0, none⟩)] W fun e w' => e = .returned (.int .i64 (n : Int)) ∧ W = w') := Lib.hid (fun W hW => by
              have := pages_any hW.disk
              rw [hW.slen] at this
              exact this)
            have HC2 : Hid (∀ W, PlayAt w d l m r a b c n s s W → Calls Try.prog 24 #[.pointer (some ⟨d, 0, none⟩), .int .i64 o.N] W fun e w' => e = .returned (pageV P) ∧ Below W.heap.size W w') := Lib.hid (fun W hW => by
              have := lasts_any hW.disk o.N
              rw [HPQ.out] at this
              exact this)
            have HN1 := fun (x y : Operand) (w : World) => run_neGuard_page w x y P P
            have HN2 := fun (w : World) => run_neq_same w P HPP.out
            refine wp_region_noPanic ?_
            refine wp_region_held_drew (S := fun W => PlayAt w d l m r a b c n s s W ∧ OpVar W B o ∧ PageAt W B16 P) (by kernel_rfl) HSS.out (fun hHeld => ?_)
            refine take_at (i := 0) (d := some 138) (v := .int .i64 E) rfl rfl (by kernel_rfl) (by kernel_rfl) (by kernel_rfl) (fun _ _ _ h => h) (Or.inl ⟨by kernel_rfl, ?_⟩) hHeld ?_
            · intro w hSw; obtain ⟨s1, s2, s3⟩ := hSw; have q1 := s1.ref.c4; have q2 := s2.n; clear s1 s2 s3; go_simp
            (try simp only [Act.put, List.setIfInBounds_toArray, List.set_cons_zero, List.set_cons_succ])
            refine take_at (i := 1) (d := some 139) (v := .int .i64 E) rfl rfl (by kernel_rfl) (by kernel_rfl) (by kernel_rfl) (fun _ _ _ h => h) (Or.inl ⟨by kernel_rfl, ?_⟩) hHeld ?_
            · intro w hSw; obtain ⟨s1, s2, s3⟩ := hSw; have q1 := s1.ref.c4; have q2 := s2.n; clear s1 s2 s3; go_simp
            (try simp only [Act.put, List.setIfInBounds_toArray, List.set_cons_zero, List.set_cons_succ])
            refine take_at (i := 2) (d := some 140) (v := .bool false) rfl rfl (by kernel_rfl) (by kernel_rfl) (by kernel_rfl) (fun _ _ _ h => h) (Or.inl ⟨by kernel_rfl, ?_⟩) hHeld ?_
            · intro w hSw; obtain ⟨s1, s2, s3⟩ := hSw; have q1 := s1.ref.c4; have q2 := s2.n; clear s1 s2 s3; go_simp
            (try simp only [Act.put, List.setIfInBounds_toArray, List.set_cons_zero, List.set_cons_succ])
            refine take_at (i := 3) (d := some 141) (v := .bool false) rfl rfl (by kernel_rfl) (by kernel_rfl) (by kernel_rfl) (fun _ _ _ h => h) (Or.inl ⟨by kernel_rfl, ?_⟩) hHeld ?_
            · intro w hSw; obtain ⟨s1, s2, s3⟩ := hSw; have q1 := s1.ref.c4; have q2 := s2.n; clear s1 s2 s3; go_simp
            (try simp only [Act.put, List.setIfInBounds_toArray, List.set_cons_zero, List.set_cons_succ])
            refine take_at (i := 4) (d := some 142) (v := .pointer (some ⟨d, 0, none⟩)) rfl rfl (by kernel_rfl) (by kernel_rfl) (by kernel_rfl) (fun _ _ _ h => h) (Or.inl ⟨by kernel_rfl, ?_⟩) hHeld ?_
            · intro w hSw; obtain ⟨s1, s2, s3⟩ := hSw; have q1 := s1.ref.c4; have q2 := s2.n; clear s1 s2 s3; go_simp
            (try simp only [Act.put, List.setIfInBounds_toArray, List.set_cons_zero, List.set_cons_succ])
            refine take_at (i := 6) (d := some 144) (v := .int .i64 (n : Int)) rfl rfl (by kernel_rfl) (by kernel_rfl) (by kernel_rfl) (fun _ _ _ h => h) (Or.inl ⟨by kernel_rfl, ?_⟩) hHeld ?_
            · intro w hSw; obtain ⟨s1, s2, s3⟩ := hSw; have q1 := s1.ref.c4; have q2 := s2.n; clear s1 s2 s3; go_simp
            (try simp only [Act.put, List.setIfInBounds_toArray, List.set_cons_zero, List.set_cons_succ])
            refine wpAnyH_ready (rs := [5]) (by kernel_rfl) (by simp) ?_
            refine AllReadyH.cons rfl (fun K hK => ?_) AllReadyH.nil
            go_simp
            (go_at_call 20; refine (HC1.out _ hHeld.1).mono ?_; rintro e w' ⟨rfl, rfl⟩)
            (try go_wp2_with fail)
            refine hK.out _ _ hHeld (fun hHeld => ?_)
            clear hK K
            (try simp only [Act.put, List.setIfInBounds_toArray, List.set_cons_zero, List.set_cons_succ])
            refine take_at (i := 7) (d := some 145) (v := .bool false) rfl rfl (by kernel_rfl) (by kernel_rfl) (by kernel_rfl) (fun _ _ _ h => h) (Or.inl ⟨by kernel_rfl, ?_⟩) hHeld ?_
            · intro w hSw; obtain ⟨s1, s2, s3⟩ := hSw; have q1 := s1.ref.c4; have q2 := s2.n; clear s1 s2 s3; go_simp
            (try simp only [Act.put, List.setIfInBounds_toArray, List.set_cons_zero, List.set_cons_succ])
            refine take_at (i := 8) (d := some 146) (v := .bool false) rfl rfl (by kernel_rfl) (by kernel_rfl) (by kernel_rfl) (fun _ _ _ h => h) (Or.inl ⟨by kernel_rfl, ?_⟩) hHeld ?_
            · intro w hSw; obtain ⟨s1, s2, s3⟩ := hSw; have q1 := s1.ref.c4; have q2 := s2.n; clear s1 s2 s3; go_simp
            (try simp only [Act.put, List.setIfInBounds_toArray, List.set_cons_zero, List.set_cons_succ])
            refine take_at (i := 9) (d := some 147) (v := .bool false) rfl rfl (by kernel_rfl) (by kernel_rfl) (by kernel_rfl) (fun _ _ _ h => h) (Or.inl ⟨by kernel_rfl, ?_⟩) hHeld ?_
            · intro w hSw; obtain ⟨s1, s2, s3⟩ := hSw; have q1 := s1.ref.c4; have q2 := s2.n; clear s1 s2 s3; go_simp
            (try simp only [Act.put, List.setIfInBounds_toArray, List.set_cons_zero, List.set_cons_succ])
            refine take_at (i := 10) (d := some 148) (v := .pointer (some ⟨d, 0, none⟩)) rfl rfl (by kernel_rfl) (by kernel_rfl) (by kernel_rfl) (fun _ _ _ h => h) (Or.inl ⟨by kernel_rfl, ?_⟩) hHeld ?_
            · intro w hSw; obtain ⟨s1, s2, s3⟩ := hSw; have q1 := s1.ref.c4; have q2 := s2.n; clear s1 s2 s3; go_simp
            (try simp only [Act.put, List.setIfInBounds_toArray, List.set_cons_zero, List.set_cons_succ])
            refine take_at (i := 12) (d := some 150) (v := .pointer (some ⟨r, 0, none⟩)) rfl rfl (by kernel_rfl) (by kernel_rfl) (by kernel_rfl) (fun _ _ _ h => h) (Or.inl ⟨by kernel_rfl, ?_⟩) hHeld ?_
            · intro w hSw; obtain ⟨s1, s2, s3⟩ := hSw; have q1 := s1.ref.c4; have q2 := s2.n; clear s1 s2 s3; go_simp
            (try simp only [Act.put, List.setIfInBounds_toArray, List.set_cons_zero, List.set_cons_succ])
            refine wpAnyH_ready (rs := [11]) (by kernel_rfl) (by simp) ?_
            refine AllReadyH.cons rfl (fun K hK => ?_) AllReadyH.nil
            go_simp
            (go_at_call 21; refine (cached_any hHeld.1.disk).mono ?_; rintro e w' ⟨rfl, rfl⟩)
            (try go_wp2_with fail)
            refine hK.out _ _ hHeld (fun hHeld => ?_)
            clear hK K
            (try simp only [Act.put, List.setIfInBounds_toArray, List.set_cons_zero, List.set_cons_succ])
            refine wpAnyH_ready (rs := [13]) (by kernel_rfl) (by simp) ?_
            refine AllReadyH.cons rfl (fun K hK => ?_) AllReadyH.nil
            go_simp
            (go_at_call 22; refine (rcached_any hHeld.1.ref).mono ?_; rintro e w' ⟨rfl, rfl⟩)
            (try go_wp2_with fail)
            refine hK.out _ _ hHeld (fun hHeld => ?_)
            clear hK K
            (try simp only [Act.put, List.setIfInBounds_toArray, List.set_cons_zero, List.set_cons_succ])
            refine take_at (i := 14) (d := some 152) (v := .bool false) rfl rfl (by kernel_rfl) (by kernel_rfl) (by kernel_rfl) (fun _ _ _ h => h) (Or.inl ⟨by kernel_rfl, ?_⟩) hHeld ?_
            · intro w hSw; obtain ⟨s1, s2, s3⟩ := hSw; have q1 := s1.ref.c4; have q2 := s2.n; clear s1 s2 s3; go_simp
            (try simp only [Act.put, List.setIfInBounds_toArray, List.set_cons_zero, List.set_cons_succ])
            refine take_at (i := 15) (d := some 153) (v := .bool false) rfl rfl (by kernel_rfl) (by kernel_rfl) (by kernel_rfl) (fun _ _ _ h => h) (Or.inl ⟨by kernel_rfl, ?_⟩) hHeld ?_
            · intro w hSw; obtain ⟨s1, s2, s3⟩ := hSw; have q1 := s1.ref.c4; have q2 := s2.n; clear s1 s2 s3; go_simp
            (try simp only [Act.put, List.setIfInBounds_toArray, List.set_cons_zero, List.set_cons_succ])
            refine take_at (i := 16) (d := some 154) (v := .bool false) rfl rfl (by kernel_rfl) (by kernel_rfl) (by kernel_rfl) (fun _ _ _ h => h) (Or.inl ⟨by kernel_rfl, ?_⟩) hHeld ?_
            · intro w hSw; obtain ⟨s1, s2, s3⟩ := hSw; have q1 := s1.ref.c4; have q2 := s2.n; clear s1 s2 s3; go_simp
            (try simp only [Act.put, List.setIfInBounds_toArray, List.set_cons_zero, List.set_cons_succ])
            refine take_at (i := 17) (d := some 155) (v := .pointer (some ⟨d, 0, none⟩)) rfl rfl (by kernel_rfl) (by kernel_rfl) (by kernel_rfl) (fun _ _ _ h => h) (Or.inl ⟨by kernel_rfl, ?_⟩) hHeld ?_
            · intro w hSw; obtain ⟨s1, s2, s3⟩ := hSw; have q1 := s1.ref.c4; have q2 := s2.n; clear s1 s2 s3; go_simp
            (try simp only [Act.put, List.setIfInBounds_toArray, List.set_cons_zero, List.set_cons_succ])
            refine take_at (i := 19) (d := some 157) (v := .pointer (some ⟨r, 0, none⟩)) rfl rfl (by kernel_rfl) (by kernel_rfl) (by kernel_rfl) (fun _ _ _ h => h) (Or.inl ⟨by kernel_rfl, ?_⟩) hHeld ?_
            · intro w hSw; obtain ⟨s1, s2, s3⟩ := hSw; have q1 := s1.ref.c4; have q2 := s2.n; clear s1 s2 s3; go_simp
            (try simp only [Act.put, List.setIfInBounds_toArray, List.set_cons_zero, List.set_cons_succ])
            refine take_at (i := 20) (d := some 158) (v := .pointer (some ⟨r, 0, none⟩)) rfl rfl (by kernel_rfl) (by kernel_rfl) (by kernel_rfl) (fun _ _ _ h => h) (Or.inl ⟨by kernel_rfl, ?_⟩) hHeld ?_
            · intro w hSw; obtain ⟨s1, s2, s3⟩ := hSw; have q1 := s1.ref.c4; have q2 := s2.n; clear s1 s2 s3; go_simp
            (try simp only [Act.put, List.setIfInBounds_toArray, List.set_cons_zero, List.set_cons_succ])
            refine take_at (i := 21) (d := some 159) (v := .pointer (some ⟨r, 4, none⟩)) rfl rfl (by kernel_rfl) (by kernel_rfl) (by kernel_rfl) (fun _ _ _ h => h) (Or.inl ⟨by kernel_rfl, ?_⟩) hHeld ?_
            · intro w hSw; obtain ⟨s1, s2, s3⟩ := hSw; have q1 := s1.ref.c4; have q2 := s2.n; clear s1 s2 s3; go_simp
            (try simp only [Act.put, List.setIfInBounds_toArray, List.set_cons_zero, List.set_cons_succ])
            refine take_at (i := 22) (d := some 160) (v := .bool s.down) rfl rfl (by kernel_rfl) (by kernel_rfl) (by kernel_rfl) (fun _ _ _ h => h) (Or.inl ⟨by kernel_rfl, ?_⟩) hHeld ?_
            · intro w hSw; obtain ⟨s1, s2, s3⟩ := hSw; have q1 := s1.ref.c4; have q2 := s2.n; clear s1 s2 s3; go_simp
            (try simp only [Act.put, List.setIfInBounds_toArray, List.set_cons_zero, List.set_cons_succ])
            refine wpAnyH_ready (rs := [18]) (by kernel_rfl) (by simp) ?_
            refine AllReadyH.cons rfl (fun K hK => ?_) AllReadyH.nil
            go_simp
            (go_at_call 23; refine (down_any hHeld.1.disk).mono ?_; rintro e w' ⟨rfl, rfl⟩)
            (try go_wp2_with fail)
            refine hK.out _ _ hHeld (fun hHeld => ?_)
            clear hK K
            (try simp only [Act.put, List.setIfInBounds_toArray, List.set_cons_zero, List.set_cons_succ])
            refine take_at (i := 23) (d := some 161) (v := .bool false) rfl rfl (by kernel_rfl) (by kernel_rfl) (by kernel_rfl) (fun _ _ _ h => h) (Or.inl ⟨by kernel_rfl, ?_⟩) hHeld ?_
            · intro w hSw; obtain ⟨s1, s2, s3⟩ := hSw; have q1 := s1.ref.c4; have q2 := s2.n; clear s1 s2 s3; go_simp
            (try simp only [Act.put, List.setIfInBounds_toArray, List.set_cons_zero, List.set_cons_succ])
            refine take_at (i := 24) (d := some 162) (v := .bool false) rfl rfl (by kernel_rfl) (by kernel_rfl) (by kernel_rfl) (fun _ _ _ h => h) (Or.inl ⟨by kernel_rfl, ?_⟩) hHeld ?_
            · intro w hSw; obtain ⟨s1, s2, s3⟩ := hSw; have q1 := s1.ref.c4; have q2 := s2.n; clear s1 s2 s3; go_simp
            (try simp only [Act.put, List.setIfInBounds_toArray, List.set_cons_zero, List.set_cons_succ])
            refine take_at (i := 25) (d := some 163) (v := .bool false) rfl rfl (by kernel_rfl) (by kernel_rfl) (by kernel_rfl) (fun _ _ _ h => h) (Or.inl ⟨by kernel_rfl, ?_⟩) hHeld ?_
            · intro w hSw; obtain ⟨s1, s2, s3⟩ := hSw; have q1 := s1.ref.c4; have q2 := s2.n; clear s1 s2 s3; go_simp
            (try simp only [Act.put, List.setIfInBounds_toArray, List.set_cons_zero, List.set_cons_succ])
            refine take_at (i := 26) (d := some 164) (v := .pointer (some ⟨d, 0, none⟩)) rfl rfl (by kernel_rfl) (by kernel_rfl) (by kernel_rfl) (fun _ _ _ h => h) (Or.inl ⟨by kernel_rfl, ?_⟩) hHeld ?_
            · intro w hSw; obtain ⟨s1, s2, s3⟩ := hSw; have q1 := s1.ref.c4; have q2 := s2.n; clear s1 s2 s3; go_simp
            (try simp only [Act.put, List.setIfInBounds_toArray, List.set_cons_zero, List.set_cons_succ])
            refine take_at (i := 27) (d := some 165) (v := .pointer (some ⟨B, 1, none⟩)) rfl rfl (by kernel_rfl) (by kernel_rfl) (by kernel_rfl) (fun _ _ _ h => h) (Or.inl ⟨by kernel_rfl, ?_⟩) hHeld ?_
            · intro w hSw; obtain ⟨s1, s2, s3⟩ := hSw; have q1 := s1.ref.c4; have q2 := s2.n; clear s1 s2 s3; go_simp
            (try simp only [Act.put, List.setIfInBounds_toArray, List.set_cons_zero, List.set_cons_succ])
            refine take_at (i := 28) (d := some 166) (v := .int .i64 o.N) rfl rfl (by kernel_rfl) (by kernel_rfl) (by kernel_rfl) (fun _ _ _ h => h) (Or.inl ⟨by kernel_rfl, ?_⟩) hHeld ?_
            · intro w hSw; obtain ⟨s1, s2, s3⟩ := hSw; have q1 := s1.ref.c4; have q2 := s2.n; clear s1 s2 s3; go_simp
            (try simp only [Act.put, List.setIfInBounds_toArray, List.set_cons_zero, List.set_cons_succ])
            refine take_at (i := 30) (d := some 168) (v := pageV P) rfl rfl (by kernel_rfl) (by kernel_rfl) (by kernel_rfl) (fun _ _ _ h => h) (yields_page (by kernel_rfl) (.tmp 16) rfl rfl HPP.out (fun _ hSw => hSw.2.2.range)) hHeld ?_
            (try simp only [Act.put, List.setIfInBounds_toArray, List.set_cons_zero, List.set_cons_succ])
            refine wpAnyH_ready (rs := [29]) (by kernel_rfl) (by simp) ?_
            refine AllReadyH.cons rfl (fun K hK => ?_) AllReadyH.nil
            go_simp
            (go_at_call 24; refine (HC2.out _ hHeld.1).mono ?_; rintro e w9 ⟨rfl, hb9⟩)
            (try go_wp2_with fail)
            refine hK.out _ _ ⟨hHeld.1.byBelow hb9, hHeld.2.1.byBelow hb9, hHeld.2.2.below hb9 hHeld.2.2.lt⟩ (fun hHeld => ?_)
            clear hK K
            (try simp only [Act.put, List.setIfInBounds_toArray, List.set_cons_zero, List.set_cons_succ])
            refine take_at (i := 31) (d := some 169) (v := .bool false) rfl rfl (by kernel_rfl) (by kernel_rfl) (by kernel_rfl) (fun _ _ _ h => h) (Or.inl ⟨by kernel_rfl, ?_⟩) hHeld ?_
            · intro w hSw; obtain ⟨s1, s2, s3⟩ := hSw; have q1 := s1.ref.c4; have q2 := s2.n; clear s1 s2 s3; go_simp
            (try simp only [Act.put, List.setIfInBounds_toArray, List.set_cons_zero, List.set_cons_succ])
            refine take_at (i := 32) (d := some 170) (v := .bool false) rfl rfl (by kernel_rfl) (by kernel_rfl) (by kernel_rfl) (fun _ _ _ h => h) (Or.inl ⟨by kernel_rfl, ?_⟩) hHeld ?_
            · intro w hSw; obtain ⟨s1, s2, s3⟩ := hSw; have q1 := s1.ref.c4; have q2 := s2.n; clear s1 s2 s3; go_simp
            (try simp only [Act.put, List.setIfInBounds_toArray, List.set_cons_zero, List.set_cons_succ])
            refine wpAnyH_done (by kernel_rfl) ?_ _
            refine NoPanic.normal ?_
            go_wp2
            go_roundw
            case rel => exact ⟨k + 1, s, by omega, by go_num, hHeld.1⟩
            case measure => simp [intOf]; omega
    · go_wp2
      go_ret
      exact ⟨rfl, HP1.out.below⟩
end Go.Proofs.Ytaiikpfgnamgiaa.diskPlays
