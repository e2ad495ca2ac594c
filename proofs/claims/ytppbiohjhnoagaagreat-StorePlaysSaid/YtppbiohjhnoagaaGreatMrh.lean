/-
  StorePlays, a size that fits: the walk.
-/
import Derived.Test.YtppbiohjhnoagaaGreatMrg
import Derived.Deep.DeepCutAuto
import Derived.Deep.CutBlock
namespace Go.Proofs.YtppbiohjhnoagaaGreat.storePlays
open Go.ChangeShapes Go.WideShapes Go.ChangeAt Go.RowKit
open Dk (zeros zeros_length)
open Jn (Chg)

theorem oprow_below {w w' : World} {A : Option Addr} {n : Nat} {os : List OpV} (h : OpRow w A n os) (hb : Below w.heap.size w w') : OpRow w' A n os where
  len := h.len
  small := h.small
  ok := fun o ho => ⟨(h.ok o ho).page, (h.ok o ho).lo, (h.ok o ho).hi, (h.ok o ho).keep.below hb⟩
  cells := fun h0 => by
    obtain ⟨b, off, rfl, hlt, hc⟩ := h.cells h0
    exact ⟨b, off, rfl, Nat.lt_of_lt_of_le hlt hb.size, fun i o hi j v hv => (hb.cell (p := ⟨b, off + i * 67 + j, none⟩) hlt).trans (hc i o hi j v hv)⟩
theorem not_big {os : List OpV} (h : bigB os = false) {o : OpV} (ho : o ∈ os) : o.n ≤ 600 := by
  unfold bigB at h
  rw [List.any_eq_false] at h
  have := h o ho
  simp at this
  omega
theorem anyQ {w : World} {b : Blk} {s : Sto} (h : StoreAt w b s) (ho : s.over = true) (q : Int) : StoreAt w b { s with q := q } := by
  obtain ⟨q', hj, _⟩ := h.ja
  exact ⟨h.row, ⟨q', hj, fun e => by have : s.over = false := e; rw [ho] at this; cases this⟩, h.disk, h.step, h.group, h.nd, ⟨h.ok.slen, h.ok.glen, h.ok.spg, h.ok.gpg, h.ok.scnt, h.ok.gcnt, h.ok.a9, h.ok.z9, h.ok.reg, h.ok.room, h.ok.r1, h.ok.r32, h.ok.rz⟩⟩
theorem over_sync {s : Sto} (h : s.over = true) : ssyncE s = 5 ∧ ssync s = s := ⟨by unfold ssyncE; rw [if_pos h], by unfold ssync; rw [if_pos h]⟩
theorem over_keep {s : Sto} (h : s.over = true) : skeepE s = 5 ∧ skeep s = s := ⟨by unfold skeepE; rw [if_pos h], by unfold skeep; rw [if_pos h]⟩
theorem ssync_all {w : World} {b : Blk} {s : Sto} (h : StoreAt w b s) (hq : s.over = true ∨ (0 ≤ s.q ∧ s.q < 4294967280)) : Calls Tryz.prog 17 #[.pointer (some ⟨b.s, 0, none⟩)] w fun e w' =>
    e = .returned (.int .i64 (ssyncE s)) ∧ StoreAt w' b (ssync s) ∧ Only [b.j, b.d, b.l, b.m, b.g] w w' := by
  rcases hq with ho | ⟨h1, h2⟩
  · have hc := ssync_any (anyQ h ho 0) (Int.le_refl 0) (show (0 : Int) < 4294967290 by omega)
    have e1 : ssyncE { s with q := 0 } = ssyncE s := by rw [(over_sync ho).1]; exact (over_sync (s := { s with q := 0 }) ho).1
    have e2 : ssync { s with q := 0 } = { s with q := 0 } := (over_sync (s := { s with q := 0 }) ho).2
    rw [e1, e2] at hc
    refine hc.mono ?_
    rintro e w' ⟨g1, g2, g3⟩
    refine ⟨g1, ?_, g3⟩
    rw [(over_sync ho).2]
    exact anyQ g2 ho s.q
  · exact ssync_any h h1 (by omega)
theorem skeep_all {w : World} {b : Blk} {s : Sto} (h : StoreAt w b s) (hq : s.over = true ∨ (0 ≤ s.q ∧ s.q < 4294967280)) : Calls Tryz.prog 14 #[.pointer (some ⟨b.s, 0, none⟩)] w fun e w' =>
    e = .returned (.int .i64 (skeepE s)) ∧ StoreAt w' b (skeep s) ∧ Only [b.j, b.d, b.l, b.m, b.g, b.t] w w' := by
  rcases hq with ho | ⟨h1, h2⟩
  · have hc := skeep_any (anyQ h ho 0) (Int.le_refl 0) (show (0 : Int) < 4294967290 by omega)
    have e1 : skeepE { s with q := 0 } = skeepE s := by rw [(over_keep ho).1]; exact (over_keep (s := { s with q := 0 }) ho).1
    have e2 : skeep { s with q := 0 } = { s with q := 0 } := (over_keep (s := { s with q := 0 }) ho).2
    rw [e1, e2] at hc
    refine hc.mono ?_
    rintro e w' ⟨g1, g2, g3⟩
    refine ⟨g1, ?_, g3⟩
    rw [(over_keep ho).2]
    exact anyQ g2 ho s.q
  · exact skeep_any h h1 (by omega)
theorem kept_below {w : World} {d l m r ra rb rc z k : Nat} {b : Blk} {q : RBlk} {s : Sto} {W W' : World} (h : Kept w d l m r ra rb rc z k b q s W) (hb : Below W.heap.size W W') : Kept w d l m r ra rb rc z k b q s W' :=
  ⟨h.d, h.l, h.m, h.r, h.ra, h.rb, h.rc, h.pl, h.w.byBelow hb⟩
set_option maxRecDepth 100000 in
set_option maxHeartbeats 1000000 in
theorem walk_great (x : Value) (A : Option Addr) (n ca : Nat) (os : List OpV) (w : World) (hrow : OpRow w A n os) (h : greatB n os = true) :
    Calls Tryz.prog 3 #[x, .slice A n ca] w fun e w' => e = .returned (.bool true) ∧ Below w.heap.size w w' := by
  have HG : Hid (∀ W, Below w.heap.size w W → Calls Tryz.prog 5 #[.slice A n ca] W fun e w' => e = .returned (.bool true) ∧ Below W.heap.size W w') := Lib.hid (fun W hb => by
    have := great_any A n ca os W (oprow_below hrow hb)
    rw [h] at this
    exact this)
  clear hrow h
  go_enter Tryz.func3, Tryz.ntmps3
  go_wp2_with fail
  refine (awake_any _).mono ?_
  rintro e w1 ⟨rfl, hb1⟩
  have HB1 := Lib.hid hb1
  clear hb1
  go_wp2_with fail
  refine (HG.out _ HB1.out).mono ?_
  rintro e w2 ⟨rfl, hb2⟩
  have HB2 := Lib.hid (HB1.out.trans (hb2.mono HB1.out.size))
  clear hb2
  go_wp2_with fail
  go_ret
  exact ⟨rfl, HB2.out⟩
theorem sread_len6 {s : Sto} (ho : s.Ok) (hd : s.dk.Ok) (i : Int) : (sreadP s i).length = 64 := by
  unfold sreadP
  split
  · unfold sheld
    cases e1 : s.step.getD i.toNat none with
    | some p => exact (ho.spg _ _ e1).1
    | none =>
      cases e2 : s.group.getD i.toNat none with
      | some p => exact (ho.gpg _ _ e2).1
      | none => exact Dk.readP_len hd i
  · exact zeros_length
set_option maxRecDepth 100000 in
set_option maxHeartbeats 16000000 in
theorem walk_main (z : Nat) (A : Option Addr) (n ca : Nat) (os : List OpV) (w : World) (hrow : OpRow w A n os) (hg : greatB n os = false) (h3 : 3 ≤ z) (h20 : z ≤ 20) :
    Calls Tryz.prog 3 #[.int .i64 (z : Int), .slice A n ca] w fun e w' => e = .returned (.bool true) ∧ Below w.heap.size w w' := by
  have HR := Lib.hid hrow
  have HG : Hid (∀ W, Below w.heap.size w W → Calls Tryz.prog 5 #[.slice A n ca] W fun e w' => e = .returned (.bool false) ∧ Below W.heap.size W w') := Lib.hid (fun W hb => by
    have := great_any A n ca os W (oprow_below hrow hb)
    rw [hg] at this
    exact this)
  have hn : n ≤ 80 := by
    unfold greatB at hg
    simp at hg
    exact hg.1
  have HBIG : Hid (∀ o ∈ os, o.n ≤ 600) := Lib.hid (fun o ho => not_big (by unfold greatB at hg; simp at hg; exact hg.2) ho)
  have HN1 : Hid (∀ W : World, Calls Tryz.prog 6 #[.int .i64 40] W fun e w' => e = .returned (.tuple #[.pointer (some ⟨W.heap.size + 2, 0, none⟩), .int .i64 0]) ∧ w' = newWorld W 40) := Lib.hid (fun W => new_any 40 W (by omega) (by omega))
  have HN2 : Hid (∀ W : World, Calls Tryz.prog 7 #[.int .i64 40] W (NewRef W 40)) := Lib.hid (fun W => rnew_any 40 W (by omega) (by omega))
  obtain ⟨R0, q0, hB0⟩ := both_fresh h3 h20
  have HB0 := Lib.hid hB0
  clear hrow hg hB0
  go_enter Tryz.func3, Tryz.ntmps3
  go_wp2_with fail
  refine (awake_any _).mono ?_
  rintro e w1 ⟨rfl, hb1⟩
  have HB1 := Lib.hid hb1
  clear hb1
  go_wp2_with fail
  refine (HG.out _ HB1.out).mono ?_
  rintro e w2 ⟨rfl, hb2⟩
  have HB2 := Lib.hid (HB1.out.trans (hb2.mono HB1.out.size))
  clear hb2 HG HB1
  go_wp2_with fail
  refine (HN1.out _).mono ?_
  rintro e w3 ⟨rfl, rfl⟩
  go_wp2_with fail
  refine (HN2.out _).mono ?_
  rintro e w4 hnr
  obtain ⟨r, ra, rb, rc, rfl, hp⟩ := PlayAt.start w w2 HB2.out 40 (by omega) (by omega) hnr
  have HP0 := Lib.hid hp
  clear hnr hp HB2 HN1 HN2
  generalize w2.heap.size + 2 = d at HP0 ⊢
  generalize w2.heap.size + 1 = m at HP0
  generalize w2.heap.size = l at HP0
  go_wp2_with fail
  refine (HB0.out.prog _ d l m HP0.out.disk).mono ?_
  rintro e w5 hs5
  obtain ⟨b0, rfl, e1, e2, e3, hr5, hE5, hop5⟩ := HP0.out.opened hs5
  have HE1 : Hid (b0.d = d ∧ b0.l = l ∧ b0.m = m) := Lib.hid ⟨e1, e2, e3⟩
  have HOP := Lib.hid hop5
  have HRF := Lib.hid (HB0.out.ref w5 r ra rb rc b0.all hr5 hE5)
  clear hs5 hr5 hE5 hop5 e1 e2 e3
  go_wp2_with fail
  refine HRF.out.mono ?_
  rintro e w6 hs6
  obtain ⟨qb0, rfl, e4, e5, e6, e7, hpw⟩ := HOP.out _ _ hs6
  have HK0 : Hid (Kept w d l m r ra rb rc z 0 b0 qb0 (sto0 R0 20 z (z - 2) q0) w6) := Lib.hid ⟨HE1.out.1, HE1.out.2.1, HE1.out.2.2, e4, e5, e6, e7, HB0.out.pl (by omega), hpw⟩
  clear HRF HOP hs6 e4 e5 e6 e7 hpw HE1 HP0 HB0
  go_wp2_with fail
  go_loopw [8, 10, 54] (fun sv vv i wr => ∃ (k : Nat) (b : Blk) (q : RBlk) (s : Sto), k ≤ n ∧ i = .int .i64 k ∧ sv = .pointer (some ⟨b.s, 0, none⟩) ∧ vv = .pointer (some ⟨q.v, 0, none⟩) ∧ Kept w d l m r ra rb rc z k b q s wr) (fun _ _ i _ => n - (intOf i).toNat)
  case atStart => exact ⟨0, b0, qb0, _, Nat.zero_le _, rfl, rfl, rfl, HK0.out⟩
  case round =>
    obtain ⟨k, b, q, s, hk, rfl, rfl, rfl, hkept⟩ := hrel
    have HK1 := Lib.hid hkept
    clear hkept HK0
    by_cases hlt : k < n
    · obtain ⟨ob, oo, rfl, hob, hoc⟩ := HR.out.cells (by omega)
      obtain ⟨o, ho⟩ : ∃ o, os[k]? = some o := ⟨_, List.getElem?_eq_getElem (by rw [HR.out.len]; exact hlt)⟩
      have HOK := Lib.hid (HR.out.ok o (List.mem_of_getElem? ho))
      have HBG := Lib.hid (HBIG.out o (List.mem_of_getElem? ho))
      have HPG := Lib.hid HOK.out.page
      have HRG : Hid (wr.rangeAt ob (oo + k * 67) (opVals o)) := Lib.hid (fun j v hv => (HK1.out.w.bel.cell (p := ⟨ob, oo + k * 67 + j, none⟩) hob).trans (hoc k o ho j v hv))
      have HOL := Lib.hid (opVals_length HOK.out)
      have HBN : Hid (∀ L : List Nat, (∀ k ∈ L, k ∈ b.all ∨ k ∈ q.all) → wr.heap.size ∉ L) := Lib.hid (fun L hL e => by
        have := HK1.out.w.lts wr.heap.size (hL _ e)
        omega)
      have hz34 := zeroOp
      have hlt' : (k : Int) < (n : Int) := by omega
      clear hob hoc ho
      go_upto_block 2 with (first
        | (with_reducible refine wpList_load_op HOL.out HRG.out rfl (.tmp 56) rfl rfl ?_)
        | ((with_reducible refine wpList_store_op HPG.out rfl (.tmp 13) (.tmp 57) rfl rfl ?_ opZero_size ?_); (exact rfl); intro W2 hV hB2 hz2; have HV := Lib.hid hV; have HP := Lib.hid (HK1.out.w.byBelow hB2); have v0 := hV.k; clear hV hB2 hz2))
      have HK : Hid (Kept w d l m r ra rb rc z k b q s W2) := Lib.hid ⟨HK1.out.d, HK1.out.l, HK1.out.m, HK1.out.r, HK1.out.ra, HK1.out.rb, HK1.out.rc, HK1.out.pl, HP.out⟩
      clear HK1 HRG HOL HP
      generalize wr.heap.size = B at HV HBN v0 ⊢
      go_cut [8, 10, 14, 15] (fun sv vv g h wx => MeetP w d l m r ra rb rc z k sv vv g h wx)
      case first =>
        by_cases K0 : o.K = 0
        · have z0 : (o.K == 0) = true := by simpa using K0
          clear K0
          have HKD : Hid (Kept w d l m r ra rb rc z k b q s W2.drew) := Lib.hid ⟨HK.out.d, HK.out.l, HK.out.m, HK.out.r, HK.out.ra, HK.out.rb, HK.out.rc, HK.out.pl, HK.out.w.byBelow (Below.refl _ _).drew⟩
          have HVD := Lib.hid (HV.out.block (W' := W2.drew) rfl)
          go_wp2_with fail
          refine wp_region_noPanic ?_
          refine wp_region_held_drew (S := fun W => OpVar W B o) (by kernel_rfl) HVD.out (fun hHeld => ?_)
          generalize W2.drew = W3 at HKD HVD hHeld ⊢
          refine take_at (i := 0) (d := some 69) (v := .pointer (some ⟨b.s, 0, none⟩)) rfl rfl (by kernel_rfl) (by kernel_rfl) (by kernel_rfl) (fun _ _ _ h => h) (Or.inl ⟨by kernel_rfl, ?_⟩) hHeld ?_
          · intro w hSw; have q0 := hSw.k; have q1 := hSw.n; clear hSw; go_simp
          (try simp only [Act.put, List.setIfInBounds_toArray, List.set_cons_zero, List.set_cons_succ])
          refine take_at (i := 1) (d := some 70) (v := .pointer (some ⟨B, 1, none⟩)) rfl rfl (by kernel_rfl) (by kernel_rfl) (by kernel_rfl) (fun _ _ _ h => h) (Or.inl ⟨by kernel_rfl, ?_⟩) hHeld ?_
          · intro w hSw; have q0 := hSw.k; have q1 := hSw.n; clear hSw; go_simp
          (try simp only [Act.put, List.setIfInBounds_toArray, List.set_cons_zero, List.set_cons_succ])
          refine take_at (i := 2) (d := some 71) (v := .int .i64 o.N) rfl rfl (by kernel_rfl) (by kernel_rfl) (by kernel_rfl) (fun _ _ _ h => h) (Or.inl ⟨by kernel_rfl, ?_⟩) hHeld ?_
          · intro w hSw; have q0 := hSw.k; have q1 := hSw.n; clear hSw; go_simp
          (try simp only [Act.put, List.setIfInBounds_toArray, List.set_cons_zero, List.set_cons_succ])
          refine take_at (i := 3) (d := some 72) (v := .pointer (some ⟨B, 2, none⟩)) rfl rfl (by kernel_rfl) (by kernel_rfl) (by kernel_rfl) (fun _ _ _ h => h) (Or.inl ⟨by kernel_rfl, ?_⟩) hHeld ?_
          · intro w hSw; have q0 := hSw.k; have q1 := hSw.n; clear hSw; go_simp
          (try simp only [Act.put, List.setIfInBounds_toArray, List.set_cons_zero, List.set_cons_succ])
          refine take_at (i := 4) (d := some 73) (v := pageV o.page) rfl rfl (by kernel_rfl) (by kernel_rfl) (by kernel_rfl) (fun _ _ _ h => h) (yields_page (by kernel_rfl) (.tmp 72) rfl rfl HPG.out (fun _ hSw => hSw.page)) hHeld ?_
          (try simp only [Act.put, List.setIfInBounds_toArray, List.set_cons_zero, List.set_cons_succ])
          refine take_at (i := 6) (d := some 75) (v := .pointer (some ⟨q.v, 0, none⟩)) rfl rfl (by kernel_rfl) (by kernel_rfl) (by kernel_rfl) (fun _ _ _ h => h) (Or.inl ⟨by kernel_rfl, ?_⟩) hHeld ?_
          · intro w hSw; have q0 := hSw.k; have q1 := hSw.n; clear hSw; go_simp
          (try simp only [Act.put, List.setIfInBounds_toArray, List.set_cons_zero, List.set_cons_succ])
          refine take_at (i := 7) (d := some 76) (v := .pointer (some ⟨B, 1, none⟩)) rfl rfl (by kernel_rfl) (by kernel_rfl) (by kernel_rfl) (fun _ _ _ h => h) (Or.inl ⟨by kernel_rfl, ?_⟩) hHeld ?_
          · intro w hSw; have q0 := hSw.k; have q1 := hSw.n; clear hSw; go_simp
          (try simp only [Act.put, List.setIfInBounds_toArray, List.set_cons_zero, List.set_cons_succ])
          refine take_at (i := 8) (d := some 77) (v := .int .i64 o.N) rfl rfl (by kernel_rfl) (by kernel_rfl) (by kernel_rfl) (fun _ _ _ h => h) (Or.inl ⟨by kernel_rfl, ?_⟩) hHeld ?_
          · intro w hSw; have q0 := hSw.k; have q1 := hSw.n; clear hSw; go_simp
          (try simp only [Act.put, List.setIfInBounds_toArray, List.set_cons_zero, List.set_cons_succ])
          refine take_at (i := 9) (d := some 78) (v := .pointer (some ⟨B, 2, none⟩)) rfl rfl (by kernel_rfl) (by kernel_rfl) (by kernel_rfl) (fun _ _ _ h => h) (Or.inl ⟨by kernel_rfl, ?_⟩) hHeld ?_
          · intro w hSw; have q0 := hSw.k; have q1 := hSw.n; clear hSw; go_simp
          (try simp only [Act.put, List.setIfInBounds_toArray, List.set_cons_zero, List.set_cons_succ])
          refine take_at (i := 10) (d := some 79) (v := pageV o.page) rfl rfl (by kernel_rfl) (by kernel_rfl) (by kernel_rfl) (fun _ _ _ h => h) (yields_page (by kernel_rfl) (.tmp 78) rfl rfl HPG.out (fun _ hSw => hSw.page)) hHeld ?_
          (try simp only [Act.put, List.setIfInBounds_toArray, List.set_cons_zero, List.set_cons_succ])
          refine wpAnyH_ready (rs := [5]) (by kernel_rfl) (by simp) ?_
          refine AllReadyH.cons rfl (fun K hK => ?_) AllReadyH.nil
          go_simp
          (go_at_call 10; refine (sput_any HKD.out.w.st o.N o.page HPG.out).mono ?_; rintro e w3 ⟨rfl, hs3, ho3⟩; have HP3 := Lib.hid (HKD.out.w.byProg hs3 ho3 (by simp [Blk.all])); have HV3 := Lib.hid (HVD.out.byOnly ho3 (HBN.out _ (fun x hx => Or.inl (by simp at hx; rw [hx]; simp [Blk.all])))); clear hs3 ho3)
          (try go_wp2_with fail)
          refine hK.out _ _ HV3.out (fun hHeld => ?_)
          clear hK K
          (try simp only [Act.put, List.setIfInBounds_toArray, List.set_cons_zero, List.set_cons_succ])
          refine wpAnyH_ready (rs := [11]) (by kernel_rfl) (by simp) ?_
          refine AllReadyH.cons rfl (fun K hK => ?_) AllReadyH.nil
          go_simp
          (go_at_call 11; refine (rput6S_any HP3.out.rs o.N o.page HPG.out).mono ?_; rintro e w4 ⟨rfl, hs4, ho4⟩; have HP4 := Lib.hid (HP3.out.byRef hs4 ho4 (by simp [RBlk.all])); have HV4 := Lib.hid (HV3.out.byOnly ho4 (HBN.out _ (fun x hx => Or.inr (by simp at hx; rw [hx]; simp [RBlk.all])))); clear hs4 ho4)
          (try go_wp2_with fail)
          refine hK.out _ _ HV4.out (fun hHeld => ?_)
          clear hK K
          (try simp only [Act.put, List.setIfInBounds_toArray, List.set_cons_zero, List.set_cons_succ])
          refine take_at (i := 12) (d := some 14) (v := .int .i64 (sputE s o.N)) rfl rfl (by kernel_rfl) (by kernel_rfl) (by kernel_rfl) (fun _ _ _ h => h) (Or.inl ⟨by kernel_rfl, ?_⟩) hHeld ?_
          · intro w hSw; have q0 := hSw.k; have q1 := hSw.n; clear hSw; go_simp
          (try simp only [Act.put, List.setIfInBounds_toArray, List.set_cons_zero, List.set_cons_succ])
          refine take_at (i := 13) (d := some 15) (v := .int .i64 (sputE s o.N)) rfl rfl (by kernel_rfl) (by kernel_rfl) (by kernel_rfl) (fun _ _ _ h => h) (Or.inl ⟨by kernel_rfl, ?_⟩) hHeld ?_
          · intro w hSw; have q0 := hSw.k; have q1 := hSw.n; clear hSw; go_simp
          (try simp only [Act.put, List.setIfInBounds_toArray, List.set_cons_zero, List.set_cons_succ])
          refine wpAnyH_done (by kernel_rfl) ?_ _
          refine NoPanic.normal ?_
          clear hHeld
          go_wp2_with fail
          go_meet
          exact ⟨b, q, sput s o.N o.page, _, rfl, rfl, rfl, rfl, HK.out.d, HK.out.l, HK.out.m, HK.out.r, HK.out.ra, HK.out.rb, HK.out.rc, HK.out.pl.put o.N HPG.out, HP4.out⟩
        · have z0 : (o.K == 0) = false := by simpa using K0
          clear K0
          by_cases K1 : o.K = 1
          · have z1 : (o.K == 1) = true := by simpa using K1
            clear K1
            have v1 := HV.out.n
            have HRL := Lib.hid (sread_len6 HK.out.w.st.ok HK.out.w.st.disk.ok o.N)
            have HRA := Lib.hid (sread_any HK.out.w.st o.N)
            have HRB := Lib.hid (fun (W : World) (hW : PlW w b q s s W) => rread6_any hW.rs o.N)
            generalize hPP : sreadP s o.N = PP at HRL HRA HRB
            generalize hEE : sreadE s o.N = EE at HRA HRB
            clear hPP hEE
            go_wp2_with fail
            refine HRA.out.mono ?_
            rintro e w3 ⟨rfl, hb3⟩
            have HP3 := Lib.hid (HK.out.w.byBelow hb3)
            have HV3 := Lib.hid (HV.out.byBelow hb3)
            clear hb3 v1
            go_wp2_with ((with_reducible refine wpList_store_new rfl (.tmp 16) (.tmp 88) rfl rfl ?_ ?_ HRL.out ?_); (exact rfl); (exact rfl); intro w4 hP4 hB4 hz4; have HP4 := Lib.hid (HP3.out.byBelow hB4); have HV4 := Lib.hid (HV3.out.byBelow hB4); have HQ4 := Lib.hid hP4; have v1 := HV4.out.n; clear hP4 hB4 hz4 HP3 HV3; generalize w3.heap.size = C1 at HQ4 ⊢)
            refine (HRB.out _ HP4.out).mono ?_
            rintro e w5 ⟨rfl, hb5⟩
            have HP5 := Lib.hid (HP4.out.byBelow hb5)
            have HQ5 := Lib.hid (HQ4.out.below hb5 HQ4.out.lt)
            clear hb5 v1 HP4 HV4 HQ4
            have HN1 := fun (x y : Operand) (w : World) => run_neGuard_page w x y PP PP
            have HN2 := fun (w : World) => run_neq_same w PP HRL.out
            go_wp2_with (first
              | ((with_reducible refine wpList_store_new rfl (.tmp 18) (.tmp 95) rfl rfl ?_ ?_ HRL.out ?_); (exact rfl); (exact rfl); intro w6 hP6 hB6 hz6; have HP6 := Lib.hid (HP5.out.byBelow hB6); have HQ6 := Lib.hid (HQ5.out.below hB6 HQ5.out.lt); have HQ7 := Lib.hid hP6; clear hP6 hB6 hz6 HP5 HQ5; generalize w5.heap.size = C2 at HQ7 ⊢)
              | (with_reducible refine wpList_load_page HQ6.out rfl (.tmp 16) rfl rfl ?_)
              | (with_reducible refine wpList_load_page HQ7.out rfl (.tmp 18) rfl rfl ?_))
            go_meet
            exact ⟨b, q, s, _, rfl, rfl, rfl, rfl, HK.out.d, HK.out.l, HK.out.m, HK.out.r, HK.out.ra, HK.out.rb, HK.out.rc, HK.out.pl.idle, HP6.out⟩
          · have z1 : (o.K == 1) = false := by simpa using K1
            clear K1
            by_cases K2 : o.K = 2
            · have z2 : (o.K == 2) = true := by simpa using K2
              clear K2
              go_wp2_with fail
              refine (skeep_all HK.out.w.st (HK.out.pl.q (by omega))).mono ?_
              rintro e w3 ⟨rfl, hs3, ho3⟩
              have HP3 := Lib.hid (HK.out.w.byProg hs3 ho3 (by simp [Blk.all]))
              clear hs3 ho3
              go_wp2_with fail
              refine (rkeep6_any HP3.out.rs (HK.out.pl.q (by omega)) (HK.out.pl.h05 (by omega))).mono ?_
              rintro e w4 ⟨rfl, hs4, ho4⟩
              have HP4 := Lib.hid (HP3.out.byRef hs4 ho4 (fun x hx => hx))
              clear hs4 ho4 HP3
              go_wp2_with fail
              go_meet
              exact ⟨b, q, skeep s, _, rfl, rfl, rfl, rfl, HK.out.d, HK.out.l, HK.out.m, HK.out.r, HK.out.ra, HK.out.rb, HK.out.rc, HK.out.pl.keep (by omega), HP4.out⟩
            · have z2 : (o.K == 2) = false := by simpa using K2
              clear K2
              by_cases K3 : o.K = 3
              · have z3 : (o.K == 3) = true := by simpa using K3
                clear K3
                go_wp2_with fail
                refine (sdrop_any HK.out.w.st).mono ?_
                rintro e w3 ⟨rfl, hs3, ho3⟩
                have HP3 := Lib.hid (HK.out.w.byProg hs3 ho3 (by simp [Blk.all]))
                clear hs3 ho3
                have HP4 := Lib.hid HP3.out.dropRef
                obtain ⟨P1, c1, P2, c2, hsl⟩ := HP3.out.rs.sl
                have v1 := hsl.v1
                have f1 : w3.frozen? ⟨q.v, 1, none⟩ = false := by
                  have := (hsl.row.free 1 (by unfold rsVals; simp)).2
                  rwa [Nat.zero_add] at this
                clear hsl HP3
                go_wp2_with fail
                go_meet
                exact ⟨b, q, sdrop s, _, rfl, rfl, rfl, rfl, HK.out.d, HK.out.l, HK.out.m, HK.out.r, HK.out.ra, HK.out.rb, HK.out.rc, HK.out.pl.drop, HP4.out⟩
              · have z3 : (o.K == 3) = false := by simpa using K3
                clear K3
                by_cases K4 : o.K = 4
                · have z4 : (o.K == 4) = true := by simpa using K4
                  clear K4
                  go_wp2_with fail
                  refine (ssync_all HK.out.w.st (HK.out.pl.q (by omega))).mono ?_
                  rintro e w3 ⟨rfl, hs3, ho3⟩
                  have HP3 := Lib.hid (HK.out.w.byProg hs3 ho3 (by simp [Blk.all]))
                  clear hs3 ho3
                  go_wp2_with fail
                  refine (rsync6_any HP3.out.rs (HK.out.pl.q (by omega)) (HK.out.pl.h05 (by omega))).mono ?_
                  rintro e w4 ⟨rfl, hs4, ho4⟩
                  have HP4 := Lib.hid (HP3.out.byRef hs4 ho4 (fun x hx => hx))
                  clear hs4 ho4 HP3
                  go_wp2_with fail
                  go_meet
                  exact ⟨b, q, ssync s, _, rfl, rfl, rfl, rfl, HK.out.d, HK.out.l, HK.out.m, HK.out.r, HK.out.ra, HK.out.rb, HK.out.rc, (HK.out.pl.sync (by omega)).1, HP4.out⟩
                · have z4 : (o.K == 4) = false := by simpa using K4
                  clear K4
                  by_cases K5 : o.K = 5
                  · have z5 : (o.K == 5) = true := by simpa using K5
                    clear K5
                    have v1 := HV.out.n
                    have HD := Lib.hid (HK.out.w.both HK.out.pl.len HK.out.pl.len HK.out.d HK.out.l HK.out.m HK.out.r HK.out.ra HK.out.rb HK.out.rc)
                    go_wp2_with fail
                    refine (fuse_any HD.out.disk o.N HOK.out.lo HOK.out.hi).mono ?_
                    rintro e w3 ⟨rfl, hd3, ho3, hz3⟩
                    have HP3 := Lib.hid (HK.out.w.fuse1 HK.out.d HK.out.l HK.out.m hd3 ho3)
                    have HV3 := Lib.hid (HV.out.byOnly ho3 (HBN.out _ (fun x hx => Or.inl (by simp at hx; rw [hx, ← HK.out.d]; simp [Blk.all]))))
                    have HD3 := Lib.hid (HP3.out.both (n := 40) HK.out.pl.len HK.out.pl.len HK.out.d HK.out.l HK.out.m HK.out.r HK.out.ra HK.out.rb HK.out.rc)
                    have v3 := HV3.out.n
                    clear hd3 ho3 hz3 v1 HD
                    go_wp2_with fail
                    refine (rfuse_any HD3.out.ref o.N HOK.out.lo HOK.out.hi).mono ?_
                    rintro e w4 ⟨rfl, hd4, ho4⟩
                    have HP4 := Lib.hid (HP3.out.fuse2 HK.out.r HK.out.ra HK.out.rb HK.out.rc hd4 ho4)
                    clear hd4 ho4 v3 HD3 HV3
                    go_wp2_with fail
                    go_meet
                    exact ⟨b, q, sfuse s o.N, _, rfl, rfl, rfl, rfl, HK.out.d, HK.out.l, HK.out.m, HK.out.r, HK.out.ra, HK.out.rb, HK.out.rc, HK.out.pl.fuse o.N HOK.out.lo HOK.out.hi, HP4.out⟩
                  · have z5 : (o.K == 5) = false := by simpa using K5
                    clear K5
                    by_cases K6 : o.K = 6
                    · have z6 : (o.K == 6) = true := by simpa using K6
                      clear K6
                      have HD0 := Lib.hid (HK.out.w.both HK.out.pl.len HK.out.pl.len HK.out.d HK.out.l HK.out.m HK.out.r HK.out.ra HK.out.rb HK.out.rc)
                      obtain ⟨R, qq, BB, hBB, hPL⟩ := HK.out.pl.opens (by omega) h3 h20 o.keep
                      have HBB := Lib.hid hBB
                      have HPL := Lib.hid hPL
                      clear hBB hPL
                      generalize s.dk = sd at HD0 HBB
                      have HD := HD0
                      clear HD0
                      have v6 := HV.out.keep
                      have hsm := HOK.out.keep.small
                      unfold maxLen at hsm
                      have hlen := HOK.out.keep.len
                      have h600 := HBG.out
                      have HC1 : Hid (∀ W, PlayAt w d l m r ra rb rc 40 sd sd W → Calls Tryz.prog 21 #[.pointer (some ⟨d, 0, none⟩), .slice o.A o.n o.c] W fun e w' => e = .returned (.tuple #[]) ∧ DiskAt w' d l m (Dk.crash sd o.keep) ∧ Only [d, l, m] W w') := Lib.hid (fun W hW => by
                        have := crash_any hW.disk o.A o.c o.keep (HOK.out.keep.keep (by omega) hW.below (fun k hk => hW.old k (by simp at hk ⊢; omega)))
                        rw [hlen] at this
                        exact this)
                      have HC2 : Hid (∀ W, PlayAt w d l m r ra rb rc 40 (Dk.crash sd o.keep) sd W → Calls Tryz.prog 22 #[.pointer (some ⟨r, 0, none⟩), .slice o.A o.n o.c] W fun e w' => e = .returned (.tuple #[]) ∧ RefAt w' r ra rb rc (Dk.crash sd o.keep) ∧ Only [r, ra, rb, rc] W w') := Lib.hid (fun W hW => by
                        have := rcrash_any hW.ref o.A o.c o.keep (HOK.out.keep.keep (by omega) hW.below (fun k hk => hW.old k (by simp at hk ⊢; omega)))
                        rw [hlen] at this
                        exact this)
                      clear hlen
                      go_wp2_with fail
                      refine (HC1.out _ HD.out).mono ?_
                      rintro e w3 ⟨rfl, hd3, ho3⟩
                      have HD3 := Lib.hid (HD.out.byDisk hd3 ho3 (by simp) (Dk.crash_len _ _))
                      have HV3 := Lib.hid (HV.out.byOnly ho3 (HBN.out _ (fun x hx => Or.inl (by have := HK.out.d; have := HK.out.l; have := HK.out.m; simp at hx; simp [Blk.all]; omega))))
                      have v7 := HV3.out.keep
                      clear HD hd3 ho3 v6 HC1
                      go_wp2_with fail
                      refine (HC2.out _ HD3.out).mono ?_
                      rintro e w4 ⟨rfl, hd4, ho4⟩
                      have HD4 := Lib.hid (HD3.out.byRef hd4 ho4 (by simp) (Dk.crash_len _ _))
                      clear HD3 hd4 ho4 v7 HC2 HV3
                      go_wp2_with fail
                      refine (HBB.out.prog _ d l m HD4.out.disk).mono ?_
                      rintro e w5 hs5
                      obtain ⟨b5, rfl, e1, e2, e3, hr5, hE5, hop5⟩ := HD4.out.opened hs5
                      have HE1 : Hid (b5.d = d ∧ b5.l = l ∧ b5.m = m) := Lib.hid ⟨e1, e2, e3⟩
                      have HOP := Lib.hid hop5
                      have HRF := Lib.hid (HBB.out.ref w5 r ra rb rc b5.all hr5 hE5)
                      clear hs5 hr5 hE5 hop5 e1 e2 e3
                      go_wp2_with fail
                      refine HRF.out.mono ?_
                      rintro e w6 hs6
                      obtain ⟨q6, rfl, e4, e5, e6, e7, hpw⟩ := HOP.out _ _ hs6
                      have HPW := Lib.hid hpw
                      have HE4 : Hid (q6.r = r ∧ q6.ra = ra ∧ q6.rb = rb ∧ q6.rc = rc) := Lib.hid ⟨e4, e5, e6, e7⟩
                      clear HRF HOP hs6 e4 e5 e6 e7 hpw
                      go_wp2_with fail
                      go_meet
                      exact ⟨b5, q6, _, _, rfl, rfl, rfl, rfl, HE1.out.1, HE1.out.2.1, HE1.out.2.2, HE4.out.1, HE4.out.2.1, HE4.out.2.2.1, HE4.out.2.2.2, HPL.out, HPW.out⟩
                    · have z6 : (o.K == 6) = false := by simpa using K6
                      clear K6
                      go_wp2_with fail
                      go_meet
                      exact ⟨b, q, s, _, rfl, rfl, rfl, rfl, HK.out.d, HK.out.l, HK.out.m, HK.out.r, HK.out.ra, HK.out.rb, HK.out.rc, HK.out.pl.idle, HK.out.w⟩
      case rest =>
        obtain ⟨b1, q1, s1, E1, rfl, rfl, rfl, rfl, hk6⟩ := hcut
        have HK6 := Lib.hid hk6
        clear hk6 HK HV v0 hz34 HOK HBG HPG HBN
        obtain ⟨P1, c1, P2, c2, hrw, _, _⟩ := HK6.out.w.rs.row
        obtain ⟨jq, hja, _⟩ := HK6.out.w.rs.ja
        have r0 : wc.cell? ⟨q1.v, 0, none⟩ = some (.pointer (some ⟨q1.j, 0, none⟩)) := hrw.cell 0 _ rfl
        have r1 : wc.cell? ⟨q1.v, 1, none⟩ = some (.slice P1 (cntO s1.step) c1) := by rw [← chgs_length]; exact hrw.cell 1 _ rfl
        have r2 : wc.cell? ⟨q1.v, 2, none⟩ = some (.slice P2 (cntO s1.group) c2) := by rw [← chgs_length]; exact hrw.cell 2 _ rfl
        have r4 := hja.c4
        have HOV := Lib.hid (fun n : Nat => (sover_any (HK6.out.w.st.drewN n)).mono fun e w' (h : _ ∧ wc.drewN n = w') => And.intro h.1 h.2.symm)
        have HST := Lib.hid (fun n : Nat => (sstep_any (HK6.out.w.st.drewN n)).mono fun e w' (h : _ ∧ wc.drewN n = w') => And.intro h.1 h.2.symm)
        have HGR := Lib.hid (fun n : Nat => (sgroup_any (HK6.out.w.st.drewN n)).mono fun e w' (h : _ ∧ wc.drewN n = w') => And.intro h.1 h.2.symm)
        clear hrw hja
        generalize s1.over = OV at HOV r4
        generalize cntO s1.step = NS at HST r1
        generalize cntO s1.group = NG at HGR r2
        have t1 : (E1 != E1) = false := by simp
        have t2 : (OV != OV) = false := by simp
        have t3 : ((NS : Int) != (NS : Int)) = false := by simp
        have t4 : ((NG : Int) != (NG : Int)) = false := by simp
        go_wp2_with fail
        go_quiet ((first | (go_at_call 23; refine Calls.quiet_of_same (HOV.out _)) | (go_at_call 24; refine Calls.quiet_of_same (HST.out _)) | (go_at_call 25; refine Calls.quiet_of_same (HGR.out _))))
        clear HOV HST HGR r0 r1 r2 r4 t1 t2 t3 t4
        have HK7 := Lib.hid (kept_below HK6.out (below_drewN _ nq))
        clear HK6
        generalize wc.drewN nq = WC at HK7 ⊢
        have HPC := Lib.hid (HK7.out.w.both HK7.out.pl.len HK7.out.pl.len HK7.out.d HK7.out.l HK7.out.m HK7.out.r HK7.out.ra HK7.out.rb HK7.out.rc)
        generalize s1.dk = sd at HPC
        go_wp2_with fail
        go_loopw [20] (fun v wr => ∃ i : Nat, i ≤ 40 ∧ v = .int .i64 i ∧ Below WC.heap.size WC wr) (fun v _ => 40 - (intOf v).toNat)
        case atStart => exact ⟨0, by omega, rfl, Below.refl _ _⟩
        case round =>
          obtain ⟨i, hi, rfl, hbi⟩ := hrel
          have HBI := Lib.hid hbi
          have HPD := Lib.hid (HPC.out.byBelow hbi)
          clear hbi
          by_cases hlt : i < 40
          · obtain ⟨P, hP⟩ : ∃ P, sd.last[i]? = some P := ⟨_, List.getElem?_eq_getElem (by rw [HPC.out.slen]; exact hlt)⟩
            have HPI := Lib.hid hP
            have HPP := Lib.hid (HPC.out.disk.ok.pages P (List.mem_of_getElem? hP))
            have HLS : Hid (∀ W, PlayAt w d l m r ra rb rc 40 sd sd W → Calls Tryz.prog 26 #[.pointer (some ⟨d, 0, none⟩), .int .i64 (i : Int)] W fun e w' => e = .returned (pageV P) ∧ Below W.heap.size W w') := Lib.hid (fun W hW => by
              have := lasts_any hW.disk (i : Int)
              have e : Dk.lastsP sd (i : Int) = P := by
                unfold Dk.lastsP Dk.lastAt
                rw [if_pos (Dk.has_mk (by rw [hW.slen]; exact hlt)), Int.toNat_natCast, List.getD_eq_getElem?_getD, HPI.out]; rfl
              rw [e] at this
              exact this)
            clear hP
            have hi1 : (i : Int) < 40 := by omega
            go_wp2_with fail
            refine wp_region_noPanic ?_
            refine wp_region_held_drew (S := PlayAt w d l m r ra rb rc 40 sd sd) (by kernel_rfl) (HPD.out.byBelow (Below.refl _ _).drew) (fun hHeld => ?_)
            have HBD : Hid (Below WC.heap.size WC wr.drew) := Lib.hid HBI.out.drew
            generalize wr.drew = wi at HBD hHeld ⊢
            refine take_at (i := 0) (d := some 201) (v := .pointer (some ⟨d, 0, none⟩)) rfl rfl (by kernel_rfl) (by kernel_rfl) (by kernel_rfl) (fun _ _ _ h => h) (Or.inl ⟨by kernel_rfl, ?_⟩) hHeld ?_
            · intro w hSw; have c0 := hSw.ref.c0; rw [hSw.tlen] at c0; clear hSw; go_simp
            (try simp only [Act.put, List.setIfInBounds_toArray, List.set_cons_zero, List.set_cons_succ])
            refine take_at (i := 1) (d := some 202) (v := .int .i64 (i : Int)) rfl rfl (by kernel_rfl) (by kernel_rfl) (by kernel_rfl) (fun _ _ _ h => h) (Or.inl ⟨by kernel_rfl, ?_⟩) hHeld ?_
            · intro w hSw; have c0 := hSw.ref.c0; rw [hSw.tlen] at c0; clear hSw; go_simp
            (try simp only [Act.put, List.setIfInBounds_toArray, List.set_cons_zero, List.set_cons_succ])
            refine take_at (i := 3) (d := some 204) (v := .pointer (some ⟨r, 0, none⟩)) rfl rfl (by kernel_rfl) (by kernel_rfl) (by kernel_rfl) (fun _ _ _ h => h) (Or.inl ⟨by kernel_rfl, ?_⟩) hHeld ?_
            · intro w hSw; have c0 := hSw.ref.c0; rw [hSw.tlen] at c0; clear hSw; go_simp
            (try simp only [Act.put, List.setIfInBounds_toArray, List.set_cons_zero, List.set_cons_succ])
            refine take_at (i := 4) (d := some 205) (v := .pointer (some ⟨r, 0, none⟩)) rfl rfl (by kernel_rfl) (by kernel_rfl) (by kernel_rfl) (fun _ _ _ h => h) (Or.inl ⟨by kernel_rfl, ?_⟩) hHeld ?_
            · intro w hSw; have c0 := hSw.ref.c0; rw [hSw.tlen] at c0; clear hSw; go_simp
            (try simp only [Act.put, List.setIfInBounds_toArray, List.set_cons_zero, List.set_cons_succ])
            refine take_at (i := 5) (d := some 206) (v := .pointer (some ⟨r, 0, none⟩)) rfl rfl (by kernel_rfl) (by kernel_rfl) (by kernel_rfl) (fun _ _ _ h => h) (Or.inl ⟨by kernel_rfl, ?_⟩) hHeld ?_
            · intro w hSw; have c0 := hSw.ref.c0; rw [hSw.tlen] at c0; clear hSw; go_simp
            (try simp only [Act.put, List.setIfInBounds_toArray, List.set_cons_zero, List.set_cons_succ])
            refine take_at (i := 6) (d := some 207) (v := .slice (some ⟨ra, 0, none⟩) 40 40) rfl rfl (by kernel_rfl) (by kernel_rfl) (by kernel_rfl) (fun _ _ _ h => h) (Or.inl ⟨by kernel_rfl, ?_⟩) hHeld ?_
            · intro w hSw; have c0 := hSw.ref.c0; rw [hSw.tlen] at c0; clear hSw; go_simp
            (try simp only [Act.put, List.setIfInBounds_toArray, List.set_cons_zero, List.set_cons_succ])
            refine take_at (i := 7) (d := some 208) (v := .int .i64 (i : Int)) rfl rfl (by kernel_rfl) (by kernel_rfl) (by kernel_rfl) (fun _ _ _ h => h) (Or.inl ⟨by kernel_rfl, ?_⟩) hHeld ?_
            · intro w hSw; have c0 := hSw.ref.c0; rw [hSw.tlen] at c0; clear hSw; go_simp
            (try simp only [Act.put, List.setIfInBounds_toArray, List.set_cons_zero, List.set_cons_succ])
            refine take_at (i := 8) (d := some 209) (v := .pointer (some ⟨ra, i * 64, none⟩)) rfl rfl (by kernel_rfl) (by kernel_rfl) (by kernel_rfl) (fun _ _ _ h => h) (Or.inl ⟨by kernel_rfl, ?_⟩) hHeld ?_
            · intro w hSw; have c0 := hSw.ref.c0; rw [hSw.tlen] at c0; clear hSw; go_simp
            (try simp only [Act.put, List.setIfInBounds_toArray, List.set_cons_zero, List.set_cons_succ])
            refine take_at (i := 9) (d := some 210) (v := pageV P) rfl rfl (by kernel_rfl) (by kernel_rfl) (by kernel_rfl) (fun _ _ _ h => h) (yields_page (by kernel_rfl) (.tmp 209) rfl rfl HPP.out (fun _ hSw => hSw.ref.rows.range i P HPI.out)) hHeld ?_
            (try simp only [Act.put, List.setIfInBounds_toArray, List.set_cons_zero, List.set_cons_succ])
            refine wpAnyH_ready (rs := [2]) (by kernel_rfl) (by simp) ?_
            refine AllReadyH.cons rfl (fun K hK => ?_) AllReadyH.nil
            go_simp
            (go_at_call 26; refine (HLS.out _ hHeld).mono ?_; rintro e w9 ⟨rfl, hb9⟩; have HB9 := Lib.hid (HBD.out.trans (hb9.mono HBD.out.size)))
            (try go_wp2_with fail)
            refine hK.out _ _ (hHeld.byBelow hb9) (fun hHeld => ?_)
            clear hK K
            (try simp only [Act.put, List.setIfInBounds_toArray, List.set_cons_zero, List.set_cons_succ])
            refine take_at (i := 10) (d := some 211) (v := .bool false) rfl rfl (by kernel_rfl) (by kernel_rfl) (by kernel_rfl) (fun _ _ _ h => h) (Or.inl ⟨by kernel_rfl, ?_⟩) hHeld ?_
            · intro w hSw; clear hSw; have HN1 := fun (x y : Operand) (w : World) => run_neGuard_page w x y P P; have HN2 := fun (w : World) => run_neq_same w P HPP.out; go_simp
            (try simp only [Act.put, List.setIfInBounds_toArray, List.set_cons_zero, List.set_cons_succ])
            refine wpAnyH_done (by kernel_rfl) ?_ _
            refine NoPanic.normal ?_
            clear hHeld
            go_wp2_with fail
            go_roundw
            case rel => exact ⟨i + 1, by omega, by go_num, HB9.out⟩
            case measure => simp [intOf]; omega
          · obtain rfl : i = 40 := by omega
            have HK8 := Lib.hid (kept_below HK7.out HBI.out)
            clear HPD HBI HK7 HPC
            go_wp2_with fail
            go_roundw
            case rel => exact ⟨k + 1, b1, q1, s1, by omega, by go_num, rfl, rfl, HK8.out⟩
            case measure => simp [intOf]; omega
    · obtain rfl : k = n := by omega
      have hkn : ¬ ((k : Int) < (k : Int)) := by omega
      go_wp2_with fail
      go_ret
      exact ⟨rfl, HK1.out.w.bel⟩
end Go.Proofs.YtppbiohjhnoagaaGreat.storePlays
