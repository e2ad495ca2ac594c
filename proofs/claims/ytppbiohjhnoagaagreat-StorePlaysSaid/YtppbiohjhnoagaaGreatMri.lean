/-
  StorePlays, a size that does not fit: the walk.
-/
import Derived.Test.YtppbiohjhnoagaaGreatMrh
namespace Go.Proofs.YtppbiohjhnoagaaGreat.storePlays
open Go.ChangeShapes Go.WideShapes Go.ChangeAt Go.RowKit
open Dk (zeros zeros_length)
open Jn (Chg)

/-- behind the switch -/
def MeetB (w : World) (d l m r ra rb rc : Nat) (sv vv g h : Value) (W : World) : Prop :=
  ∃ (s : Dk.St) (E : Int), sv = .pointer none ∧ vv = .pointer none ∧ g = .int .i64 E ∧ h = .int .i64 E ∧ PlayAt w d l m r ra rb rc 40 s s W
set_option maxRecDepth 100000 in
set_option maxHeartbeats 16000000 in
theorem walk_bad (z : Int) (A : Option Addr) (n ca : Nat) (os : List OpV) (w : World) (hrow : OpRow w A n os) (hg : greatB n os = false) (hz0 : -9223372036854775808 ≤ z) (hz1 : z ≤ 9223372036854775807) (hb : z ≤ 2 ∨ 20 < z) :
    Calls Tryz.prog 3 #[.int .i64 z, .slice A n ca] w fun e w' => e = .returned (.bool true) ∧ Below w.heap.size w w' := by
  have HR := Lib.hid hrow
  have HG : Hid (∀ W, Below w.heap.size w W → Calls Tryz.prog 5 #[.slice A n ca] W fun e w' => e = .returned (.bool false) ∧ Below W.heap.size W w') := Lib.hid (fun W hb => by
    have := great_any A n ca os W (oprow_below hrow hb)
    rw [hg] at this
    exact this)
  have hn : n ≤ 80 := by
    unfold greatB at hg
    simp at hg
    exact hg.1
  have HBIG : Hid (∀ o ∈ os, o.n ≤ 600) := Lib.hid (fun o ho => not_big (by unfold greatB at hg; simp at hg; exact hg.2) ho)
  have HN1 : Hid (∀ W : World, Calls Tryz.prog 6 #[.int .i64 40] W fun e w' => e = .returned (.tuple #[.pointer (some ⟨W.heap.size + 2, 0, none⟩), .int .i64 0]) ∧ w' = newWorld W 40) := Lib.hid (fun W => new_any 40 W (by omega) (by omega))
  have HN2 : Hid (∀ W : World, Calls Tryz.prog 7 #[.int .i64 40] W (NewRef W 40)) := Lib.hid (fun W => rnew_any 40 W (by omega) (by omega))
  have HSB : Hid (∀ (W : World) (d l m : Nat) (s : Dk.St), DiskAt W d l m s → s.down = false → s.last.length = 40 → Calls Tryz.prog 8 #[.pointer (some ⟨d, 0, none⟩), .int .i64 20, .int .i64 z] W fun e w' => e = .returned (.tuple #[.pointer none, .int .i64 22]) ∧ W = w') := Lib.hid (fun W d l m s h h1 h2 => sopen_bad h h1 z hz0 hz1 h2 hb)
  have HRB : Hid (∀ (W : World) (r ra rb rc : Nat) (s : Dk.St), RefAt W r ra rb rc s → s.down = false → s.last.length = 40 → Calls Tryz.prog 9 #[.pointer (some ⟨r, 0, none⟩), .int .i64 20, .int .i64 z] W fun e w' => e = .returned (.tuple #[.pointer none, .int .i64 22]) ∧ W = w') := Lib.hid (fun W r ra rb rc s h h1 h2 => ropen6_bad h h1 z hz0 hz1 h2 hb)
  clear hrow hg hb hz0 hz1
  go_enter Tryz.func3, Tryz.ntmps3
  go_wp2_with fail
  refine (awake_any _).mono ?_
  rintro e w1 ⟨rfl, hb1⟩
  have HB1 := Lib.hid hb1
  clear hb1
  go_wp2_with fail
  refine (HG.out _ HB1.out).mono ?_
  rintro e w2 ⟨rfl, hb2⟩
  have HB2 := Lib.hid (HB1.out.trans (hb2.mono HB1.out.size))
  clear hb2 HG HB1
  go_wp2_with fail
  refine (HN1.out _).mono ?_
  rintro e w3 ⟨rfl, rfl⟩
  go_wp2_with fail
  refine (HN2.out _).mono ?_
  rintro e w4 hnr
  obtain ⟨r, ra, rb, rc, rfl, hp⟩ := PlayAt.start w w2 HB2.out 40 (by omega) (by omega) hnr
  have HP0 := Lib.hid hp
  clear hnr hp HB2 HN1 HN2
  generalize w2.heap.size + 2 = d at HP0 ⊢
  generalize w2.heap.size + 1 = m at HP0
  generalize w2.heap.size = l at HP0
  go_wp2_with fail
  refine (HSB.out _ d l m _ HP0.out.disk rfl HP0.out.slen).mono ?_
  rintro e w5 ⟨rfl, rfl⟩
  go_wp2_with fail
  refine (HRB.out _ r ra rb rc _ HP0.out.ref rfl HP0.out.tlen).mono ?_
  rintro e w6 ⟨rfl, rfl⟩
  go_wp2_with fail
  go_loopw [8, 10, 54] (fun sv vv i wr => ∃ (k : Nat) (s : Dk.St), k ≤ n ∧ i = .int .i64 k ∧ sv = .pointer none ∧ vv = .pointer none ∧ PlayAt w d l m r ra rb rc 40 s s wr) (fun _ _ i _ => n - (intOf i).toNat)
  case atStart => exact ⟨0, _, Nat.zero_le _, rfl, rfl, rfl, HP0.out⟩
  case round =>
    obtain ⟨k, sd, hk, rfl, rfl, rfl, hkept⟩ := hrel
    have HK1 := Lib.hid hkept
    clear hkept HP0
    by_cases hlt : k < n
    · obtain ⟨ob, oo, rfl, hob, hoc⟩ := HR.out.cells (by omega)
      obtain ⟨o, ho⟩ : ∃ o, os[k]? = some o := ⟨_, List.getElem?_eq_getElem (by rw [HR.out.len]; exact hlt)⟩
      have HOK := Lib.hid (HR.out.ok o (List.mem_of_getElem? ho))
      have HBG := Lib.hid (HBIG.out o (List.mem_of_getElem? ho))
      have HPG := Lib.hid HOK.out.page
      have HRG : Hid (wr.rangeAt ob (oo + k * 67) (opVals o)) := Lib.hid (fun j v hv => (HK1.out.below.cell (p := ⟨ob, oo + k * 67 + j, none⟩) hob).trans (hoc k o ho j v hv))
      have HOL := Lib.hid (opVals_length HOK.out)
      have HBN : Hid (wr.heap.size ∉ [d, l, m, r, ra, rb, rc]) := Lib.hid (fun e => by
        have := HK1.out.lts wr.heap.size e
        omega)
      have hz34 := zeroOp
      have hlt' : (k : Int) < (n : Int) := by omega
      clear hob hoc ho
      by_cases K5 : o.K < 5
      · go_wp2_with (first
          | (with_reducible refine wpList_load_op HOL.out HRG.out rfl (.tmp 56) rfl rfl ?_)
          | ((with_reducible refine wpList_store_op HPG.out rfl (.tmp 13) (.tmp 57) rfl rfl ?_ opZero_size ?_); (exact rfl); intro W2 hV hB2 hz2; have HP := Lib.hid (HK1.out.byBelow hB2); have v0 := hV.k; clear hV hB2 hz2))
        go_roundw
        case rel => exact ⟨k + 1, sd, by omega, by go_num, rfl, rfl, HP.out⟩
        case measure => simp [intOf]; omega
      · have k5 : decide (o.K < 5) = false := decide_eq_false K5
        go_upto_block 2 with (first
          | (with_reducible refine wpList_load_op HOL.out HRG.out rfl (.tmp 56) rfl rfl ?_)
          | ((with_reducible refine wpList_store_op HPG.out rfl (.tmp 13) (.tmp 57) rfl rfl ?_ opZero_size ?_); (exact rfl); intro W2 hV hB2 hz2; have HV := Lib.hid hV; have HP := Lib.hid (HK1.out.byBelow hB2); have v0 := hV.k; clear hV hB2 hz2))
        have HD : Hid (PlayAt w d l m r ra rb rc 40 sd sd W2) := HP
        clear HK1 HRG HOL HP
        generalize wr.heap.size = B at HV HBN v0 ⊢
        have z0 : (o.K == 0) = false := by rw [beq_eq_false_iff_ne]; omega
        have z1 : (o.K == 1) = false := by rw [beq_eq_false_iff_ne]; omega
        have z2 : (o.K == 2) = false := by rw [beq_eq_false_iff_ne]; omega
        have z3 : (o.K == 3) = false := by rw [beq_eq_false_iff_ne]; omega
        have z4 : (o.K == 4) = false := by rw [beq_eq_false_iff_ne]; omega
        clear K5 k5
        go_cut [8, 10, 14, 15] (fun sv vv g h wx => MeetB w d l m r ra rb rc sv vv g h wx)
        case first =>
          by_cases K5 : o.K = 5
          · have z5 : (o.K == 5) = true := by simpa using K5
            clear K5
            have v1 := HV.out.n
            go_wp2_with fail
            refine (fuse_any HD.out.disk o.N HOK.out.lo HOK.out.hi).mono ?_
            rintro e w3 ⟨rfl, hd3, ho3, hz3⟩
            have HD3 := Lib.hid (HD.out.byDisk hd3 ho3 (by simp) rfl)
            have HV3 := Lib.hid (HV.out.byOnly ho3 (fun e => HBN.out (by simp at e ⊢; omega)))
            have v3 := HV3.out.n
            clear hd3 ho3 hz3 v1 HD
            go_wp2_with fail
            refine (rfuse_any HD3.out.ref o.N HOK.out.lo HOK.out.hi).mono ?_
            rintro e w4 ⟨rfl, hd4, ho4⟩
            have HD4 := Lib.hid (HD3.out.byRef hd4 ho4 (by simp) rfl)
            clear hd4 ho4 v3 HD3 HV3
            go_wp2_with fail
            go_meet
            exact ⟨_, _, rfl, rfl, rfl, rfl, HD4.out⟩
          · have z5 : (o.K == 5) = false := by simpa using K5
            clear K5
            by_cases K6 : o.K = 6
            · have z6 : (o.K == 6) = true := by simpa using K6
              clear K6
              have HUP : Hid ((Dk.crash sd o.keep).down = false) := Lib.hid (Jn.crash_cl HD.out.disk.ok o.keep).up
              have v6 := HV.out.keep
              have hsm := HOK.out.keep.small
              unfold maxLen at hsm
              have hlen := HOK.out.keep.len
              have h600 := HBG.out
              have HC1 : Hid (∀ W, PlayAt w d l m r ra rb rc 40 sd sd W → Calls Tryz.prog 21 #[.pointer (some ⟨d, 0, none⟩), .slice o.A o.n o.c] W fun e w' => e = .returned (.tuple #[]) ∧ DiskAt w' d l m (Dk.crash sd o.keep) ∧ Only [d, l, m] W w') := Lib.hid (fun W hW => by
                have := crash_any hW.disk o.A o.c o.keep (HOK.out.keep.keep (by omega) hW.below (fun k hk => hW.old k (by simp at hk ⊢; omega)))
                rw [hlen] at this
                exact this)
              have HC2 : Hid (∀ W, PlayAt w d l m r ra rb rc 40 (Dk.crash sd o.keep) sd W → Calls Tryz.prog 22 #[.pointer (some ⟨r, 0, none⟩), .slice o.A o.n o.c] W fun e w' => e = .returned (.tuple #[]) ∧ RefAt w' r ra rb rc (Dk.crash sd o.keep) ∧ Only [r, ra, rb, rc] W w') := Lib.hid (fun W hW => by
                have := rcrash_any hW.ref o.A o.c o.keep (HOK.out.keep.keep (by omega) hW.below (fun k hk => hW.old k (by simp at hk ⊢; omega)))
                rw [hlen] at this
                exact this)
              clear hlen
              go_wp2_with fail
              refine (HC1.out _ HD.out).mono ?_
              rintro e w3 ⟨rfl, hd3, ho3⟩
              have HD3 := Lib.hid (HD.out.byDisk hd3 ho3 (by simp) (Dk.crash_len _ _))
              have HV3 := Lib.hid (HV.out.byOnly ho3 (fun e => HBN.out (by simp at e ⊢; omega)))
              have v7 := HV3.out.keep
              clear HD hd3 ho3 v6 HC1
              go_wp2_with fail
              refine (HC2.out _ HD3.out).mono ?_
              rintro e w4 ⟨rfl, hd4, ho4⟩
              have HD4 := Lib.hid (HD3.out.byRef hd4 ho4 (by simp) (Dk.crash_len _ _))
              clear HD3 hd4 ho4 v7 HC2 HV3
              go_wp2_with fail
              refine (HSB.out _ d l m _ HD4.out.disk HUP.out HD4.out.slen).mono ?_
              rintro e w5 ⟨rfl, rfl⟩
              go_wp2_with fail
              refine (HRB.out _ r ra rb rc _ HD4.out.ref HUP.out HD4.out.tlen).mono ?_
              rintro e w6 ⟨rfl, rfl⟩
              go_wp2_with fail
              go_meet
              exact ⟨_, _, rfl, rfl, rfl, rfl, HD4.out⟩
            · have z6 : (o.K == 6) = false := by simpa using K6
              clear K6
              go_wp2_with fail
              go_meet
              exact ⟨_, _, rfl, rfl, rfl, rfl, HD.out⟩
        case rest =>
          obtain ⟨sd2, E1, rfl, rfl, rfl, rfl, hk6⟩ := hcut
          have HK6 := Lib.hid hk6
          clear hk6 HD HV v0 hz34 HOK HBG HPG HBN z0 z1 z2 z3 z4
          have t1 : (E1 != E1) = false := by simp
          go_wp2_with fail
          go_quiet (fail)
          clear t1
          have HPC := Lib.hid (HK6.out.drewN nq)
          clear HK6
          generalize wc.drewN nq = WC at HPC ⊢
          go_wp2_with fail
          go_loopw [20] (fun v wr => ∃ i : Nat, i ≤ 40 ∧ v = .int .i64 i ∧ Below WC.heap.size WC wr) (fun v _ => 40 - (intOf v).toNat)
          case atStart => exact ⟨0, by omega, rfl, Below.refl _ _⟩
          case round =>
            obtain ⟨i, hi, rfl, hbi⟩ := hrel
            have HBI := Lib.hid hbi
            have HPD := Lib.hid (HPC.out.byBelow hbi)
            clear hbi
            by_cases hlt : i < 40
            · obtain ⟨P, hP⟩ : ∃ P, sd2.last[i]? = some P := ⟨_, List.getElem?_eq_getElem (by rw [HPC.out.slen]; exact hlt)⟩
              have HPI := Lib.hid hP
              have HPP := Lib.hid (HPC.out.disk.ok.pages P (List.mem_of_getElem? hP))
              have HLS : Hid (∀ W, PlayAt w d l m r ra rb rc 40 sd2 sd2 W → Calls Tryz.prog 26 #[.pointer (some ⟨d, 0, none⟩), .int .i64 (i : Int)] W fun e w' => e = .returned (pageV P) ∧ Below W.heap.size W w') := Lib.hid (fun W hW => by
                have := lasts_any hW.disk (i : Int)
                have e : Dk.lastsP sd2 (i : Int) = P := by
                  unfold Dk.lastsP Dk.lastAt
                  rw [if_pos (Dk.has_mk (by rw [hW.slen]; exact hlt)), Int.toNat_natCast, List.getD_eq_getElem?_getD, HPI.out]; rfl
                rw [e] at this
                exact this)
              clear hP
              have hi1 : (i : Int) < 40 := by omega
              go_wp2_with fail
              refine wp_region_noPanic ?_
              refine wp_region_held_drew (S := PlayAt w d l m r ra rb rc 40 sd2 sd2) (by kernel_rfl) (HPD.out.byBelow (Below.refl _ _).drew) (fun hHeld => ?_)
              have HBD : Hid (Below WC.heap.size WC wr.drew) := Lib.hid HBI.out.drew
              generalize wr.drew = wi at HBD hHeld ⊢
              refine take_at (i := 0) (d := some 201) (v := .pointer (some ⟨d, 0, none⟩)) rfl rfl (by kernel_rfl) (by kernel_rfl) (by kernel_rfl) (fun _ _ _ h => h) (Or.inl ⟨by kernel_rfl, ?_⟩) hHeld ?_
              · intro w hSw; have c0 := hSw.ref.c0; rw [hSw.tlen] at c0; clear hSw; go_simp
              (try simp only [Act.put, List.setIfInBounds_toArray, List.set_cons_zero, List.set_cons_succ])
              refine take_at (i := 1) (d := some 202) (v := .int .i64 (i : Int)) rfl rfl (by kernel_rfl) (by kernel_rfl) (by kernel_rfl) (fun _ _ _ h => h) (Or.inl ⟨by kernel_rfl, ?_⟩) hHeld ?_
              · intro w hSw; have c0 := hSw.ref.c0; rw [hSw.tlen] at c0; clear hSw; go_simp
              (try simp only [Act.put, List.setIfInBounds_toArray, List.set_cons_zero, List.set_cons_succ])
              refine take_at (i := 3) (d := some 204) (v := .pointer (some ⟨r, 0, none⟩)) rfl rfl (by kernel_rfl) (by kernel_rfl) (by kernel_rfl) (fun _ _ _ h => h) (Or.inl ⟨by kernel_rfl, ?_⟩) hHeld ?_
              · intro w hSw; have c0 := hSw.ref.c0; rw [hSw.tlen] at c0; clear hSw; go_simp
              (try simp only [Act.put, List.setIfInBounds_toArray, List.set_cons_zero, List.set_cons_succ])
              refine take_at (i := 4) (d := some 205) (v := .pointer (some ⟨r, 0, none⟩)) rfl rfl (by kernel_rfl) (by kernel_rfl) (by kernel_rfl) (fun _ _ _ h => h) (Or.inl ⟨by kernel_rfl, ?_⟩) hHeld ?_
              · intro w hSw; have c0 := hSw.ref.c0; rw [hSw.tlen] at c0; clear hSw; go_simp
              (try simp only [Act.put, List.setIfInBounds_toArray, List.set_cons_zero, List.set_cons_succ])
              refine take_at (i := 5) (d := some 206) (v := .pointer (some ⟨r, 0, none⟩)) rfl rfl (by kernel_rfl) (by kernel_rfl) (by kernel_rfl) (fun _ _ _ h => h) (Or.inl ⟨by kernel_rfl, ?_⟩) hHeld ?_
              · intro w hSw; have c0 := hSw.ref.c0; rw [hSw.tlen] at c0; clear hSw; go_simp
              (try simp only [Act.put, List.setIfInBounds_toArray, List.set_cons_zero, List.set_cons_succ])
              refine take_at (i := 6) (d := some 207) (v := .slice (some ⟨ra, 0, none⟩) 40 40) rfl rfl (by kernel_rfl) (by kernel_rfl) (by kernel_rfl) (fun _ _ _ h => h) (Or.inl ⟨by kernel_rfl, ?_⟩) hHeld ?_
              · intro w hSw; have c0 := hSw.ref.c0; rw [hSw.tlen] at c0; clear hSw; go_simp
              (try simp only [Act.put, List.setIfInBounds_toArray, List.set_cons_zero, List.set_cons_succ])
              refine take_at (i := 7) (d := some 208) (v := .int .i64 (i : Int)) rfl rfl (by kernel_rfl) (by kernel_rfl) (by kernel_rfl) (fun _ _ _ h => h) (Or.inl ⟨by kernel_rfl, ?_⟩) hHeld ?_
              · intro w hSw; have c0 := hSw.ref.c0; rw [hSw.tlen] at c0; clear hSw; go_simp
              (try simp only [Act.put, List.setIfInBounds_toArray, List.set_cons_zero, List.set_cons_succ])
              refine take_at (i := 8) (d := some 209) (v := .pointer (some ⟨ra, i * 64, none⟩)) rfl rfl (by kernel_rfl) (by kernel_rfl) (by kernel_rfl) (fun _ _ _ h => h) (Or.inl ⟨by kernel_rfl, ?_⟩) hHeld ?_
              · intro w hSw; have c0 := hSw.ref.c0; rw [hSw.tlen] at c0; clear hSw; go_simp
              (try simp only [Act.put, List.setIfInBounds_toArray, List.set_cons_zero, List.set_cons_succ])
              refine take_at (i := 9) (d := some 210) (v := pageV P) rfl rfl (by kernel_rfl) (by kernel_rfl) (by kernel_rfl) (fun _ _ _ h => h) (yields_page (by kernel_rfl) (.tmp 209) rfl rfl HPP.out (fun _ hSw => hSw.ref.rows.range i P HPI.out)) hHeld ?_
              (try simp only [Act.put, List.setIfInBounds_toArray, List.set_cons_zero, List.set_cons_succ])
              refine wpAnyH_ready (rs := [2]) (by kernel_rfl) (by simp) ?_
              refine AllReadyH.cons rfl (fun K hK => ?_) AllReadyH.nil
              go_simp
              (go_at_call 26; refine (HLS.out _ hHeld).mono ?_; rintro e w9 ⟨rfl, hb9⟩; have HB9 := Lib.hid (HBD.out.trans (hb9.mono HBD.out.size)))
              (try go_wp2_with fail)
              refine hK.out _ _ (hHeld.byBelow hb9) (fun hHeld => ?_)
              clear hK K
              (try simp only [Act.put, List.setIfInBounds_toArray, List.set_cons_zero, List.set_cons_succ])
              refine take_at (i := 10) (d := some 211) (v := .bool false) rfl rfl (by kernel_rfl) (by kernel_rfl) (by kernel_rfl) (fun _ _ _ h => h) (Or.inl ⟨by kernel_rfl, ?_⟩) hHeld ?_
              · intro w hSw; clear hSw; have HN1 := fun (x y : Operand) (w : World) => run_neGuard_page w x y P P; have HN2 := fun (w : World) => run_neq_same w P HPP.out; go_simp
              (try simp only [Act.put, List.setIfInBounds_toArray, List.set_cons_zero, List.set_cons_succ])
              refine wpAnyH_done (by kernel_rfl) ?_ _
              refine NoPanic.normal ?_
              clear hHeld
              go_wp2_with fail
              go_roundw
              case rel => exact ⟨i + 1, by omega, by go_num, HB9.out⟩
              case measure => simp [intOf]; omega
            · obtain rfl : i = 40 := by omega
              have HK8 := Lib.hid (HPC.out.byBelow HBI.out)
              clear HPD HBI HPC
              go_wp2_with fail
              go_roundw
              case rel => exact ⟨k + 1, sd2, by omega, by go_num, rfl, rfl, HK8.out⟩
              case measure => simp [intOf]; omega
    · obtain rfl : k = n := by omega
      have hkn : ¬ ((k : Int) < (k : Int)) := by omega
      go_wp2_with fail
      go_ret
      exact ⟨rfl, HK1.out.below⟩
end Go.Proofs.YtppbiohjhnoagaaGreat.storePlays
