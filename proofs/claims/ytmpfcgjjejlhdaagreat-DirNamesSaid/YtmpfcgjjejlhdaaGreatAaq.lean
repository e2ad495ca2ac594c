/- Texts of the proof. -/
import Derived.Test.YtmpfcgjjejlhdaaGreatAap
import Derived.Test.YtmpfcgjjejlhdaaGreatAah
import Derived.Lib.Builder
import Derived.Lib.UnsafeStr
import Derived.Lib.MakeNoZero
import Derived.Lib.Walk
import Derived.Laws.Externs
import Derived.Laws.AppendOwn
import Derived.RegionTactic
import Derived.Test.YtmpfcgjjejlhdaaGreatAab
import Derived.Laws.MakeOwn
import Derived.Test.YtmpfcgjjejlhdaaGreatAao
import Derived.Test.YtmpfcgjjejlhdaaGreatAak
import Derived.Test.YtmpfcgjjejlhdaaGreatAaj
set_option maxRecDepth 100000
set_option maxHeartbeats 16000000
namespace Go.Proofs.YtmpfcgjjejlhdaaGreat
section
open Go.RowKit Go.Maps
open Dk (zeros zeros_length)
open Ii (Ino)
open Dm (Has Ent)
theorem pl300 : Pl.rightB 300 4 = true := by decide
structure Fresh2 (w3 w9 w10 : World) (V : Nat) (b : Blk) (M M2 : Nat) (k : Nat) (E : List Ent) (H : Has) (A2 : Option Addr) (nL : Nat) (L : List Ent) : Prop where
  fs : Lo (M :: V :: b.all) w3 [] w10
  fd : DS w10 V b k E H
  fm : HasI w10 M H
  fb : HasB w10 M2 (Dm.seenH L 0)
  fe : EntRow w10 A2 nL L
  fv : ∀ i ∈ [M2], i ∉ V :: b.all
  fn : M ∉ [M2]
  fq : 0 < nL → ∀ i ∈ [M2], ∀ b' off, A2 = some ⟨b', off, none⟩ → b' ≠ i
  fg : w3.heap.size ≤ M2
theorem fresh_map {w3 w9 w10 : World} {V : Nat} {b : Blk} {M M2 : Nat} {k : Nat} {E : List Ent} {H : Has} {A2 : Option Addr} {nL : Nat} {L : List Ent} {l : List (Nat × List Value)} (hM2 : w9.heap.size = M2) (hw : w9.alloc (.map #[] 0) = w10) (hr : EntRow w9 A2 nL L) (S : Lo (M :: V :: b.all) w3 l w9) (hd : DS w9 V b k E H) (hm : HasI w9 M H) : Fresh2 w3 w9 w10 V b M M2 k E H A2 nL L := by
  have hbm : Below w9.heap.size w9 w10 := by rw [← hw]; exact (Below.refl _ _).alloc (Nat.le_refl _) _
  refine ⟨(S.below hbm).cut 0, hd.below hbm, hm.step hbm, by rw [← hM2, ← hw]; exact has_made _ _ _ _ _ _, hr.below hbm, ?_, ?_, ?_, ?_⟩
  · intro i hi q
    rw [List.mem_singleton] at hi
    have := hd.lt i q
    omega
  · intro hi
    rw [List.mem_singleton] at hi
    have := hm.lt
    omega
  · intro h0 i hi b' off e q
    rw [List.mem_singleton] at hi
    obtain ⟨b2, off2, e2, hlt, _⟩ := hr.cells h0
    rw [e] at e2
    injection e2 with e2
    injection e2 with e2
    omega
  · have := S.only.size
    omega
theorem skip_ways (k to : Int) (t : List UInt8) (H : Has) (h : (2 : Int) < k ∨ to < 1 ∨ 200 < to ∨ k < 0) :
    (2 : Int) < k ∨ (¬ (2 : Int) < k ∧ to < 1) ∨ (¬ (2 : Int) < k ∧ ¬ to < 1 ∧ 200 < to) ∨ (¬ (2 : Int) < k ∧ ¬ to < 1 ∧ ¬ 200 < to ∧ k < 0 ∧ (k == 0) = false ∧ ¬ 0 < k ∧ Dm.look H t = none) ∨ (¬ (2 : Int) < k ∧ ¬ to < 1 ∧ ¬ 200 < to ∧ k < 0 ∧ (k == 0) = false ∧ ¬ 0 < k ∧ ∃ m, Dm.look H t = some m) := by
  by_cases q1 : (2 : Int) < k
  · exact Or.inl q1
  · by_cases q2 : to < 1
    · exact Or.inr (Or.inl ⟨q1, q2⟩)
    · by_cases q3 : 200 < to
      · exact Or.inr (Or.inr (Or.inl ⟨q1, q2, q3⟩))
      · have q4 : k < 0 := by omega
        have g0 : (k == 0) = false := by simp; omega
        cases hl : Dm.look H t with
        | none => exact Or.inr (Or.inr (Or.inr (Or.inl ⟨q1, q2, q3, q4, g0, by omega, rfl⟩)))
        | some m => exact Or.inr (Or.inr (Or.inr (Or.inr ⟨q1, q2, q3, q4, g0, by omega, m, rfl⟩)))
theorem want_ways (o : Dop) (H H2 : Has) (hH : newH { o with ino := 1 } H = H2) (h0 : ¬ o.k < 0) :
    (Nm.chk o.name = 0 ∧ Dm.want o.k o.name H = 0 ∧ (o.k == 0) = true ∧ ¬ 0 < o.k ∧ (o.k == 2) = false ∧ Dm.look H o.name = none ∧ Dm.putH H o.name o.to = H2) ∨
    (Nm.chk o.name = 0 ∧ Dm.want o.k o.name H = 17 ∧ (o.k == 0) = true ∧ ¬ 0 < o.k ∧ (o.k == 2) = false ∧ (∃ m, Dm.look H o.name = some m) ∧ H = H2) ∨
    (∃ cv, Nm.chk o.name = cv ∧ Dm.want o.k o.name H = cv ∧ (cv == 0) = false ∧ (o.k == 0) = true ∧ ¬ 0 < o.k ∧ (o.k == 2) = false ∧ Dm.look H o.name = none ∧ H = H2) ∨
    (∃ cv, Nm.chk o.name = cv ∧ Dm.want o.k o.name H = cv ∧ (cv == 0) = false ∧ (o.k == 0) = true ∧ ¬ 0 < o.k ∧ (o.k == 2) = false ∧ (∃ m, Dm.look H o.name = some m) ∧ H = H2) ∨
    (∃ ck, Nm.chk o.name = ck ∧ Dm.want o.k o.name H = 2 ∧ (o.k == 0) = false ∧ 0 < o.k ∧ Dm.look H o.name = none ∧ H = H2) ∨
    (∃ ck, Nm.chk o.name = ck ∧ Dm.want o.k o.name H = 0 ∧ (o.k == 0) = false ∧ 0 < o.k ∧ (o.k == 2) = true ∧ (∃ m, Dm.look H o.name = some m) ∧ Dm.delH (Dm.putH H o.name o.to) o.name = H2) ∨
    (∃ ck, Nm.chk o.name = ck ∧ Dm.want o.k o.name H = 0 ∧ (o.k == 0) = false ∧ 0 < o.k ∧ (o.k == 2) = false ∧ (∃ m, Dm.look H o.name = some m) ∧ Dm.putH H o.name o.to = H2) := by
  have hF : ∀ cv, Dm.want o.k o.name H = cv → cv ≠ 0 → H = H2 := fun cv hw hc => by
    rw [← hH]
    unfold newH
    rw [if_neg (by rw [hw]; exact hc)]
  by_cases k0 : o.k = 0
  · have g0 : (o.k == 0) = true := by simp [k0]
    have g1 : ¬ 0 < o.k := by omega
    have g2 : (o.k == 2) = false := by simp; omega
    by_cases c0 : Nm.chk o.name = 0
    · cases hl : Dm.look H o.name with
      | none =>
        have hw : Dm.want o.k o.name H = 0 := by rw [k0]; unfold Dm.want; rw [if_pos rfl, if_neg (by simp [c0]), hl]; rfl
        refine Or.inl ⟨c0, hw, g0, g1, g2, rfl, ?_⟩
        rw [← hH]
        unfold newH Dm.nextH
        rw [if_pos hw, if_neg (by show ¬ o.k = 2; omega)]
      | some m =>
        have hw : Dm.want o.k o.name H = 17 := by rw [k0]; unfold Dm.want; rw [if_pos rfl, if_neg (by simp [c0]), hl]; rfl
        exact Or.inr (Or.inl ⟨c0, hw, g0, g1, g2, ⟨m, rfl⟩, hF _ hw (by decide)⟩)
    · have hw : Dm.want o.k o.name H = Nm.chk o.name := by rw [k0]; unfold Dm.want; rw [if_pos rfl, if_pos c0]
      cases hl : Dm.look H o.name with
      | none => exact Or.inr (Or.inr (Or.inl ⟨_, rfl, hw, by simp [c0], g0, g1, g2, rfl, hF _ hw c0⟩))
      | some m => exact Or.inr (Or.inr (Or.inr (Or.inl ⟨_, rfl, hw, by simp [c0], g0, g1, g2, ⟨m, rfl⟩, hF _ hw c0⟩)))
  · have g0 : (o.k == 0) = false := by simp [k0]
    have g1 : 0 < o.k := by omega
    cases hl : Dm.look H o.name with
    | none =>
      have hw : Dm.want o.k o.name H = 2 := by unfold Dm.want; rw [if_neg k0, hl]; rfl
      exact Or.inr (Or.inr (Or.inr (Or.inr (Or.inl ⟨_, rfl, hw, g0, g1, rfl, hF _ hw (by decide)⟩))))
    | some m =>
      have hw : Dm.want o.k o.name H = 0 := by unfold Dm.want; rw [if_neg k0, hl]; rfl
      by_cases k2 : o.k = 2
      · refine Or.inr (Or.inr (Or.inr (Or.inr (Or.inr (Or.inl ⟨_, rfl, hw, g0, g1, by simp [k2], ⟨m, rfl⟩, ?_⟩)))))
        rw [Dm.del_put, ← hH]
        unfold newH Dm.nextH
        rw [if_pos hw, if_pos k2]
      · refine Or.inr (Or.inr (Or.inr (Or.inr (Or.inr (Or.inr ⟨_, rfl, hw, g0, g1, by simp [k2], ⟨m, rfl⟩, ?_⟩)))))
        rw [← hH]
        unfold newH Dm.nextH
        rw [if_pos hw, if_neg k2]
theorem names_walk (HAW : ∀ W, Calls Tryz.prog 5 #[] W fun e w' => e = .returned (.bool true) ∧ Below W.heap.size W w') (HDO : DoSpec) (HAL : AllSpec) (A : Option Addr) (n c : Nat) (os : List Dop) (w : World) (hrow : DopRow w A n os) :
    Calls Tryz.prog 3 #[.slice A n c] w fun e w' => e = .returned (.bool true) ∧ Below w.heap.size w w' := by
  have HG := Lib.hid (fun (W : World) (hb : Below w.heap.size w W) => dgreat_any (c := c) (hrow.step hb))
  have HR := Lib.hid hrow
  have HLN := Lib.hid hrow.len
  have HF := Lib.hid (fun W => lawFresh_any W 300 4 pl300)
  have HAW := Lib.hid HAW
  have HDO := Lib.hid HDO
  have HAL := Lib.hid HAL
  have hmm := @run_makeMap Tryz.prog
  clear hrow
  go_enter Tryz.func3, Tryz.ntmps3
  go_wp2_with fail
  refine (HAW.out _).mono ?_
  rintro e w1 ⟨rfl, hb1⟩
  go_wp2_with fail
  refine (HG.out w1 hb1).mono ?_
  rintro e w2 ⟨g, rfl, hg, hb2⟩
  have hb2' := hb1.trans (hb2.mono hb1.size)
  cases g with
  | true =>
    go_wp2_with fail
    go_ret
    exact ⟨rfl, hb2'⟩
  | false =>
    obtain ⟨hn80', htx⟩ := hg rfl
    have hn80 : n ≤ 80 := by have := HLN.out; omega
    have HTX := Lib.hid htx
    go_wp2_with fail
    refine (HF.out w2).mono ?_
    rintro e w25 ⟨V, b, s, rfl, hv, hs, hb3, hV, hbb⟩
    have hb3' := hb2'.trans (hb3.mono hb2'.size)
    have hsz := hb2'.size
    obtain ⟨M, hM⟩ : ∃ M, w25.heap.size = M := ⟨_, rfl⟩
    obtain ⟨w3, hw3⟩ : ∃ w3, w25.alloc (.map #[] 0) = w3 := ⟨_, rfl⟩
    have hbm : Below w25.heap.size w25 w3 := by rw [← hw3]; exact (Below.refl _ _).alloc (Nat.le_refl _) _
    have HD0 : Hid (DS w3 V b 0 [] []) := Lib.hid (DS.below ⟨s, _, _, _, hv, hs.calm pl300, root_dir hs pl300⟩ hbm)
    have HM0 : Hid (HasI w3 M []) := Lib.hid (by rw [← hM, ← hw3]; exact has_made _ _ _ _ _ _)
    have hvl : ∀ i ∈ V :: b.all, i < w25.heap.size := DS.lt (E := []) (H := []) (k := 0) ⟨s, _, _, _, hv, hs.calm pl300, root_dir hs pl300⟩
    have hMb : ∀ i ∈ V :: b.all, i ≠ M := fun i hi q => by have := hvl i hi; omega
    have HNM0 := Lib.hid hMb
    have HBG : Hid (∀ k ∈ M :: V :: b.all, w.heap.size ≤ k) := Lib.hid (fun k hk => by
      have := hb3'.size
      rcases List.mem_cons.1 hk with rfl | hk
      · omega
      · rcases List.mem_cons.1 hk with rfl | hk
        · omega
        · have := hbb k hk; omega)
    have hb4' := hb3'.trans (hbm.mono hb3'.size)
    have S0 : Hid (Lo (M :: V :: b.all) w3 [] w3) := Lib.hid (Lo.start w3 (fun k hk => by
      rcases List.mem_cons.1 hk with rfl | hk
      · exact HM0.out.lt
      · exact HD0.out.lt k hk))
    have HB3 : Hid (∀ W l, Lo (M :: V :: b.all) w3 l W → Below w.heap.size w W) := Lib.hid (fun W l hl => Only.toBelowOld hb4' hl.only (by have := hb4'.size; omega) HBG.out)
    have HRB : Hid (∀ W l, Lo (M :: V :: b.all) w3 l W → DopRow W A n os) := Lib.hid (fun W l hl => HR.out.step (HB3.out W l hl))
    clear hv hs hbb hb1 hb2 hb3 hV hb2' hb3' hb4' hsz hbm hvl hMb
    go_wp2_with fail
    clear hw3 hM
    go_loopw [29] (fun i wr => ∃ (k : Nat) (E : List Ent) (H : Has), k ≤ n ∧ i = .int .i64 k ∧ Lo (M :: V :: b.all) w3 [] wr ∧ Hid (DS wr V b (2 * k) E H) ∧ Hid (HasI wr M H) ∧ Hid (E.length ≤ k + 3 ∧ H.length ≤ k)) (fun i _ => n - (intOf i).toNat)
    case atStart => exact ⟨0, [], [], Nat.zero_le _, rfl, S0.out, HD0, HM0, Lib.hid ⟨by simp, by simp⟩⟩
    case round =>
      clear S0 HD0 HM0
      obtain ⟨k, E, H, hk, rfl, hS, HD, HM, HKE⟩ := hrel
      have S := Lib.hid hS
      clear hS
      by_cases hlt : k < n
      · obtain ⟨o, ho⟩ : ∃ o, os[k]? = some o := ⟨_, List.getElem?_eq_getElem (by rw [HLN.out]; exact hlt)⟩
        have HR2 := Lib.hid (HRB.out _ _ S.out)
        obtain ⟨pb, poff, rfl, hpb, hpr⟩ := HR2.out.cells (by omega)
        have HPI := Lib.hid (hpr k o ho)
        have HT := Lib.hid (HTX.out o (List.mem_of_getElem? ho))
        have HOK := Lib.hid (HR2.out.ok o (List.mem_of_getElem? ho))
        have HSM : Hid ((strOf o.name).size ≤ maxLen) := Lib.hid (by rw [strOf_size]; have := HT.out.1; unfold maxLen; omega)
        have HNV : Hid (∀ B, B = wr.heap.size → ∀ i ∈ [B], i ∉ V :: b.all) := Lib.hid (fun B hB i hi q => by
          rw [List.mem_singleton] at hi
          have := HD.out.lt i q
          omega)
        have HNM : Hid (∀ B, B = wr.heap.size → M ∉ [B]) := Lib.hid (fun B hB hi => by
          rw [List.mem_singleton] at hi
          have := HM.out.lt
          omega)
        have HCK : Hid (∀ W, Calls Tryz.prog 8 #[.string (strOf o.name)] W fun e w' => e = .returned (.int .i64 (Nm.chk o.name)) ∧ Below W.heap.size W w') := Lib.hid (fun W => by
          have := check_any (strOf o.name) W HSM.out
          rw [bytes_strOf] at this
          exact this)
        have HMV : Hid (M ∉ V :: b.all) := Lib.hid (fun q => HNM0.out M q rfl)
        have HM1 : Hid (∀ i ∈ [M], i ∉ V :: b.all) := Lib.hid (fun i hi => by
          rw [List.mem_singleton] at hi
          subst hi
          exact HMV.out)
        clear hpr hpb ho
        by_cases qs : (2 : Int) < o.k ∨ o.to < 1 ∨ 200 < o.to ∨ o.k < 0
        · rcases skip_ways o.k o.to o.name H qs with q1 | ⟨q1, q2⟩ | ⟨q1, q2, q3⟩ | ⟨q1, q2, q3, q4, g0, g1, hlk⟩ | ⟨q1, q2, q3, q4, g0, g1, hm1, hlk⟩
          all_goals
            clear qs
            try rw [← bytes_strOf o.name] at hlk
            try have HLK := Lib.hid hlk
            try clear hlk
            go_wp2_with (first
              | (with_reducible refine wpList_load_mid rfl 31 (.tmp 31) rfl pb (poff + k * 5) rfl (dopL o) _ HPI.out Tryz.underlying31 rfl (by kernel_rfl) ?_)
              | ((with_reducible refine wpList_store_newrow (vs := dopL o) dopT ?_ (dopL_one _) rfl (.tmp 7) (.tmp 32) rfl rfl ?_ ?_ ?_); (exact rfl); (exact rfl); (exact rfl); intro W4 hP hB2 hz2; have S2 := Lib.hid (S.out.made hP hB2 hz2); have HD2 := Lib.hid (HD.out.below hB2); have HM2 := Lib.hid (HM.out.step hB2); clear hP hB2 hz2 S HD HM; have cc := (S2.out.get 0 _ rfl).cell 1 _ rfl; have ff := (S2.out.get 0 _ rfl).frozen 1 (show 1 < 5 by decide); have S3 : Hid (Lo (M :: V :: b.all) w3 [(wr.heap.size, dopL { o with ino := 1 })] (W4.setCell ⟨wr.heap.size, 1, none⟩ (.int .i64 1))) := Lib.hid (S2.out.putAt 0 _ rfl 1 [.int .i64 1] (dopL { o with ino := 1 }) (show 1 + 1 ≤ 5 by decide) rfl); have ho3 : Only [wr.heap.size] W4 (W4.setCell ⟨wr.heap.size, 1, none⟩ (.int .i64 1)) := (Only.refl _ _).setCell (p := ⟨wr.heap.size, 1, none⟩) (by simp) _; have HD3 := Lib.hid (HD2.out.only ho3 (HNV.out _ rfl)); have HM3 := Lib.hid (HM2.out.only ho3 (HNM.out _ rfl)); clear ho3 HD2 HM2; have d0 := (S3.out.get 0 _ rfl).cell 0 _ rfl; have d1 := (S3.out.get 0 _ rfl).cell 1 _ rfl; have d2 := (S3.out.get 0 _ rfl).cell 2 _ rfl; have d3 := (S3.out.get 0 _ rfl).cell 3 _ rfl; have d4 := (S3.out.get 0 _ rfl).cell 4 _ rfl)
              | (with_reducible refine wpList_has_none HM3.out pvI Tryz.underlying9 Tryz.underlying29 (strOf o.name) HSM.out HLK.out rfl (.tmp 48) (.tmp 50) rfl rfl rfl ?_)
              | (with_reducible refine wpList_has_some HM3.out pvI Tryz.underlying9 Tryz.underlying29 (strOf o.name) HSM.out hm1 HLK.out rfl (.tmp 48) (.tmp 50) rfl rfl rfl ?_)
              | (go_at_call 8; (with_reducible refine (HCK.out _).mono ?_); rintro e w5 ⟨rfl, hb5⟩; have S4 := Lib.hid (S3.out.below hb5); have HD4 := Lib.hid (HD3.out.below hb5); have HM4 := Lib.hid (HM3.out.step hb5); clear S3 HD3 HM3 hb5 d0 d1 d2 d3 d4; have S3 := S4; have HD3 := HD4; have HM3 := HM4; clear S4 HD4 HM4; have d0 := (S3.out.get 0 _ rfl).cell 0 _ rfl; have d1 := (S3.out.get 0 _ rfl).cell 1 _ rfl; have d2 := (S3.out.get 0 _ rfl).cell 2 _ rfl; have d3 := (S3.out.get 0 _ rfl).cell 3 _ rfl; have d4 := (S3.out.get 0 _ rfl).cell 4 _ rfl)
              | (with_reducible refine wpList_load_rw dopT (S3.out.get 0 _ rfl) rfl rfl (.tmp 7) rfl rfl ?_)
              | (go_at_call 9; (with_reducible refine (HDD.out _ HD3.out).mono ?_); rintro e w6 ⟨rfl, hd6, ho6⟩; have S6 := Lib.hid (S3.out.call ho6 (fun i hi => List.mem_cons_of_mem _ hi)); have HD6 := Lib.hid hd6; have HM6 := Lib.hid (HM3.out.only ho6 HMV.out); (try rw [HQ.out] at HM6); clear S3 HD3 HM3 hd6 ho6 d0 d1 d2 d3 d4; have d0 := (S6.out.get 0 _ rfl).cell 0 _ rfl; have d2 := (S6.out.get 0 _ rfl).cell 2 _ rfl; have d3 := (S6.out.get 0 _ rfl).cell 3 _ rfl)
              | (at_mapUpdate; go_must (refine wpList_has_store HM6.out pvI Tryz.underlying9 Tryz.underlying29 (strOf o.name) HSM.out o.to HWF.out HHL.out rfl (.tmp 92) (.tmp 94) (.tmp 96) rfl rfl rfl rfl ?_); intro w7 hm7 ho7; (try rw [HQ.out] at hm7); have S7 := Lib.hid (S6.out.call ho7 (fun i hi => by rw [List.mem_singleton] at hi; subst hi; exact List.mem_cons_self)); have HD7 := Lib.hid (HD6.out.only ho7 HM1.out); have HM7 := Lib.hid hm7; clear S6 HD6 HM6 hm7 ho7 d0 d2 d3; have d0 := (S7.out.get 0 _ rfl).cell 0 _ rfl; have d3 := (S7.out.get 0 _ rfl).cell 3 _ rfl)
              | (at_delete; go_must (refine wpList_has_drop HM7.out Tryz.underlying9 Tryz.underlying29 (strOf o.name) HSM.out rfl (.tmp 104) (.tmp 106) rfl rfl rfl ?_); intro w8 hm8 ho8; (try rw [HQ.out] at hm8); have S8 := Lib.hid (S7.out.call ho8 (fun i hi => by rw [List.mem_singleton] at hi; subst hi; exact List.mem_cons_self)); have HD8 := Lib.hid (HD7.out.only ho8 HM1.out); have HM8 := Lib.hid hm8; clear S7 HD7 HM7 hm8 ho8 d0 d3; have S7 := S8; have HD7 := HD8; have HM7 := HM8; clear S8 HD8 HM8)
              | (go_at_call 10; (with_reducible refine (HAA.out _ HD7.out).mono ?_); rintro e w9 ⟨A2, c2, rfl, hrow2, hd9, ho9⟩; have S9 := Lib.hid (S7.out.call ho9 (fun i hi => List.mem_cons_of_mem _ hi)); have HD9 := Lib.hid hd9; have HM9 := Lib.hid (HM7.out.only ho9 HMV.out); clear S7 HD7 HM7 hd9 ho9; have hlen := HM9.out.len Tryz.underlying29 3; rw [HLL.out] at hlen; obtain ⟨M2, hM2⟩ : ∃ M2, w9.heap.size = M2 := ⟨_, rfl⟩; obtain ⟨w10, hw10⟩ : ∃ w10, w9.alloc (.map #[] 0) = w10 := ⟨_, rfl⟩; have HX := Lib.hid (fresh_map (L := L) hM2 hw10 hrow2 S9.out HD9.out HM9.out); clear hrow2)
              | (go_at_call 10; (with_reducible refine (HAA.out _ HD6.out).mono ?_); rintro e w9 ⟨A2, c2, rfl, hrow2, hd9, ho9⟩; have S9 := Lib.hid (S6.out.call ho9 (fun i hi => List.mem_cons_of_mem _ hi)); have HD9 := Lib.hid hd9; have HM9 := Lib.hid (HM6.out.only ho9 HMV.out); clear S6 HD6 HM6 hd9 ho9; have hlen := HM9.out.len Tryz.underlying29 3; rw [HLL.out] at hlen; obtain ⟨M2, hM2⟩ : ∃ M2, w9.heap.size = M2 := ⟨_, rfl⟩; obtain ⟨w10, hw10⟩ : ∃ w10, w9.alloc (.map #[] 0) = w10 := ⟨_, rfl⟩; have HX := Lib.hid (fresh_map (L := L) hM2 hw10 hrow2 S9.out HD9.out HM9.out); clear hrow2))
            go_roundw
            case rel => exact ⟨k + 1, E, H, by omega, by go_num, S3.out.cut 0, Lib.hid (HD3.out.more (by omega)), HM3, Lib.hid (by have := HKE.out; omega)⟩
            case measure => simp [intOf]; omega
        · have q1 : ¬ (2 : Int) < o.k := fun q => qs (Or.inl q)
          have q2 : ¬ o.to < 1 := fun q => qs (Or.inr (Or.inl q))
          have q3 : ¬ 200 < o.to := fun q => qs (Or.inr (Or.inr (Or.inl q)))
          have lt0 : ¬ o.k < 0 := fun q => qs (Or.inr (Or.inr (Or.inr q)))
          have HOKE := Lib.hid (HD.out.ok)
          obtain ⟨E2, hE2⟩ : ∃ E2, newE { o with ino := 1 } E H = E2 := ⟨_, rfl⟩
          obtain ⟨H2, hH2⟩ : ∃ H2, newH { o with ino := 1 } H = H2 := ⟨_, rfl⟩
          have hKE := HKE.out
          have hHT := HT.out
          have hD := fun W (hd : DS W V b (2 * k) E H) => HDO.out W V b (2 * k) E H { o with ino := 1 } hd (by omega) (by omega) rfl (by show 0 ≤ o.k; omega) (by show o.k ≤ 2; omega) (by show 1 ≤ o.to; omega) (by show o.to ≤ 200; omega) hHT.1 hHT.2
          have hokn := ok_want (o := { o with ino := 1 }) HOKE.out k hKE.1 hKE.2
          rw [hE2, hH2] at hokn
          have HKE2 : Hid (E2.length ≤ k + 1 + 3 ∧ H2.length ≤ k + 1) := Lib.hid hokn
          have HWF : Hid ((Lit.int .i64 o.to).wf = true) := Lib.hid (WalkArith.wf_i64 (by omega))
          have HHL : Hid (H.length < maxLen) := Lib.hid (by unfold maxLen; omega)
          obtain ⟨L, hL⟩ : ∃ L, Dm.live E2 = L := ⟨_, rfl⟩
          obtain ⟨nL, hnL⟩ : ∃ nL, L.length = nL := ⟨_, rfl⟩
          have HAA : Hid (∀ W, DS W V b (2 * k + 1) E2 H2 → Calls Tryz.prog 10 #[.pointer (some ⟨V, 0, none⟩), .int .i64 1] W fun e w' => ∃ A c, e = .returned (.tuple #[.slice A nL c, .int .i64 0]) ∧ EntRow w' A nL L ∧ DS w' V b (2 * k + 2) E2 H2 ∧ Only (V :: b.all) W w') := Lib.hid (fun W hd => by
            have := HAL.out W V b (2 * k + 1) E2 H2 hd (by omega)
            rw [hL, hnL] at this
            exact this.mono fun e w' ⟨A, c, h1, h2, h3, h4⟩ => ⟨A, c, h1, h2, h3, h4⟩)
          have HD2 : Hid (∀ cv, Dm.want o.k o.name H = cv → ∀ W, DS W V b (2 * k) E H → Calls Tryz.prog 9 #[.pointer (some ⟨V, 0, none⟩), .agg (dopL { o with ino := 1 }).toArray] W fun e w' => e = .returned (.int .i64 cv) ∧ DS w' V b (2 * k + 1) E2 H2 ∧ Only (V :: b.all) W w') := Lib.hid (fun cv hcv W hd => by
            have := hD W hd
            rw [hE2, hH2, show Dm.want ({ o with ino := 1 } : Dop).k ({ o with ino := 1 } : Dop).name H = cv from hcv] at this
            exact this)
          have HLN2 := Lib.hid hnL
          have hok2 := ok_new (o := { o with ino := 1 }) HOKE.out (by show 1 ≤ o.to; omega) (by show o.to ≤ 200; omega)
          rw [hE2, hH2] at hok2
          have hnb : nL ≤ 1000 := by
            rw [← hnL, ← hL]
            have := List.length_filter_le Dm.used E2
            unfold Dm.live
            omega
          have HSE : Hid (∀ j e, L[j]? = some e → (strOf e.2).size ≤ maxLen ∧ Dm.look H2 e.2 = some e.1 ∧ Dm.look (Dm.seenH L j) e.2 = none ∧ Dm.putH (Dm.seenH L j) e.2 1 = Dm.seenH L (j + 1) ∧ (Dm.seenH L j).length < maxLen) := Lib.hid (fun j e he => by
            have hlt := (List.getElem?_eq_some_iff.1 he).1
            have hm := List.mem_of_getElem? he
            rw [← hL] at hm
            have hnn := hok2.names
            rw [hL] at hnn
            have hss := Dm.seen_step hnn he
            exact ⟨ent_size hok2 hm, hok2.all e hm, hss.1, hss.2, by rw [Dm.seen_length L j (by omega)]; unfold maxLen; omega⟩)
          have HLL : Hid (H2.length = nL) := Lib.hid (by rw [← hok2.count, hL, hnL])
          clear hE2 hL hnL hokn hKE hHT hok2
          clear qs
          rcases want_ways o H H2 hH2 lt0 with ⟨hck, hw, g0, g1, g2, hlk, hq⟩ | ⟨hck, hw, g0, g1, g2, ⟨hm1, hlk⟩, hq⟩ | ⟨cv, hck, hw, c1, g0, g1, g2, hlk, hq⟩ | ⟨cv, hck, hw, c1, g0, g1, g2, ⟨hm1, hlk⟩, hq⟩ | ⟨ck, hck, hw, g0, g1, hlk, hq⟩ | ⟨ck, hck, hw, g0, g1, g2, ⟨hm1, hlk⟩, hq⟩ | ⟨ck, hck, hw, g0, g1, g2, ⟨hm1, hlk⟩, hq⟩
          all_goals
            have HDD := Lib.hid (HD2.out _ hw)
            rw [hck] at HCK
            rw [← bytes_strOf o.name] at hlk
            try rw [← bytes_strOf o.name] at hq
            have HLK := Lib.hid hlk
            have HQ := Lib.hid hq
            clear HD2 hw hlk hH2 hD hq hck
            go_wp2_with (first
              | (with_reducible refine wpList_load_mid rfl 31 (.tmp 31) rfl pb (poff + k * 5) rfl (dopL o) _ HPI.out Tryz.underlying31 rfl (by kernel_rfl) ?_)
              | ((with_reducible refine wpList_store_newrow (vs := dopL o) dopT ?_ (dopL_one _) rfl (.tmp 7) (.tmp 32) rfl rfl ?_ ?_ ?_); (exact rfl); (exact rfl); (exact rfl); intro W4 hP hB2 hz2; have S2 := Lib.hid (S.out.made hP hB2 hz2); have HD2 := Lib.hid (HD.out.below hB2); have HM2 := Lib.hid (HM.out.step hB2); clear hP hB2 hz2 S HD HM; have cc := (S2.out.get 0 _ rfl).cell 1 _ rfl; have ff := (S2.out.get 0 _ rfl).frozen 1 (show 1 < 5 by decide); have S3 : Hid (Lo (M :: V :: b.all) w3 [(wr.heap.size, dopL { o with ino := 1 })] (W4.setCell ⟨wr.heap.size, 1, none⟩ (.int .i64 1))) := Lib.hid (S2.out.putAt 0 _ rfl 1 [.int .i64 1] (dopL { o with ino := 1 }) (show 1 + 1 ≤ 5 by decide) rfl); have ho3 : Only [wr.heap.size] W4 (W4.setCell ⟨wr.heap.size, 1, none⟩ (.int .i64 1)) := (Only.refl _ _).setCell (p := ⟨wr.heap.size, 1, none⟩) (by simp) _; have HD3 := Lib.hid (HD2.out.only ho3 (HNV.out _ rfl)); have HM3 := Lib.hid (HM2.out.only ho3 (HNM.out _ rfl)); clear ho3 HD2 HM2; have d0 := (S3.out.get 0 _ rfl).cell 0 _ rfl; have d1 := (S3.out.get 0 _ rfl).cell 1 _ rfl; have d2 := (S3.out.get 0 _ rfl).cell 2 _ rfl; have d3 := (S3.out.get 0 _ rfl).cell 3 _ rfl; have d4 := (S3.out.get 0 _ rfl).cell 4 _ rfl)
              | (with_reducible refine wpList_has_none HM3.out pvI Tryz.underlying9 Tryz.underlying29 (strOf o.name) HSM.out HLK.out rfl (.tmp 48) (.tmp 50) rfl rfl rfl ?_)
              | (with_reducible refine wpList_has_some HM3.out pvI Tryz.underlying9 Tryz.underlying29 (strOf o.name) HSM.out hm1 HLK.out rfl (.tmp 48) (.tmp 50) rfl rfl rfl ?_)
              | (go_at_call 8; (with_reducible refine (HCK.out _).mono ?_); rintro e w5 ⟨rfl, hb5⟩; have S4 := Lib.hid (S3.out.below hb5); have HD4 := Lib.hid (HD3.out.below hb5); have HM4 := Lib.hid (HM3.out.step hb5); clear S3 HD3 HM3 hb5 d0 d1 d2 d3 d4; have S3 := S4; have HD3 := HD4; have HM3 := HM4; clear S4 HD4 HM4; have d0 := (S3.out.get 0 _ rfl).cell 0 _ rfl; have d1 := (S3.out.get 0 _ rfl).cell 1 _ rfl; have d2 := (S3.out.get 0 _ rfl).cell 2 _ rfl; have d3 := (S3.out.get 0 _ rfl).cell 3 _ rfl; have d4 := (S3.out.get 0 _ rfl).cell 4 _ rfl)
              | (with_reducible refine wpList_load_rw dopT (S3.out.get 0 _ rfl) rfl rfl (.tmp 7) rfl rfl ?_)
              | (go_at_call 9; (with_reducible refine (HDD.out _ HD3.out).mono ?_); rintro e w6 ⟨rfl, hd6, ho6⟩; have S6 := Lib.hid (S3.out.call ho6 (fun i hi => List.mem_cons_of_mem _ hi)); have HD6 := Lib.hid hd6; have HM6 := Lib.hid (HM3.out.only ho6 HMV.out); (try rw [HQ.out] at HM6); clear S3 HD3 HM3 hd6 ho6 d0 d1 d2 d3 d4; have d0 := (S6.out.get 0 _ rfl).cell 0 _ rfl; have d2 := (S6.out.get 0 _ rfl).cell 2 _ rfl; have d3 := (S6.out.get 0 _ rfl).cell 3 _ rfl)
              | (at_mapUpdate; go_must (refine wpList_has_store HM6.out pvI Tryz.underlying9 Tryz.underlying29 (strOf o.name) HSM.out o.to HWF.out HHL.out rfl (.tmp 92) (.tmp 94) (.tmp 96) rfl rfl rfl rfl ?_); intro w7 hm7 ho7; (try rw [HQ.out] at hm7); have S7 := Lib.hid (S6.out.call ho7 (fun i hi => by rw [List.mem_singleton] at hi; subst hi; exact List.mem_cons_self)); have HD7 := Lib.hid (HD6.out.only ho7 HM1.out); have HM7 := Lib.hid hm7; clear S6 HD6 HM6 hm7 ho7 d0 d2 d3; have d0 := (S7.out.get 0 _ rfl).cell 0 _ rfl; have d3 := (S7.out.get 0 _ rfl).cell 3 _ rfl)
              | (at_delete; go_must (refine wpList_has_drop HM7.out Tryz.underlying9 Tryz.underlying29 (strOf o.name) HSM.out rfl (.tmp 104) (.tmp 106) rfl rfl rfl ?_); intro w8 hm8 ho8; (try rw [HQ.out] at hm8); have S8 := Lib.hid (S7.out.call ho8 (fun i hi => by rw [List.mem_singleton] at hi; subst hi; exact List.mem_cons_self)); have HD8 := Lib.hid (HD7.out.only ho8 HM1.out); have HM8 := Lib.hid hm8; clear S7 HD7 HM7 hm8 ho8 d0 d3; have S7 := S8; have HD7 := HD8; have HM7 := HM8; clear S8 HD8 HM8)
              | (go_at_call 10; (with_reducible refine (HAA.out _ HD7.out).mono ?_); rintro e w9 ⟨A2, c2, rfl, hrow2, hd9, ho9⟩; have S9 := Lib.hid (S7.out.call ho9 (fun i hi => List.mem_cons_of_mem _ hi)); have HD9 := Lib.hid hd9; have HM9 := Lib.hid (HM7.out.only ho9 HMV.out); clear S7 HD7 HM7 hd9 ho9; have hlen := HM9.out.len Tryz.underlying29 3; rw [HLL.out] at hlen; obtain ⟨M2, hM2⟩ : ∃ M2, w9.heap.size = M2 := ⟨_, rfl⟩; obtain ⟨w10, hw10⟩ : ∃ w10, w9.alloc (.map #[] 0) = w10 := ⟨_, rfl⟩; have HX := Lib.hid (fresh_map (L := L) hM2 hw10 hrow2 S9.out HD9.out HM9.out); clear hrow2)
              | (go_at_call 10; (with_reducible refine (HAA.out _ HD6.out).mono ?_); rintro e w9 ⟨A2, c2, rfl, hrow2, hd9, ho9⟩; have S9 := Lib.hid (S6.out.call ho9 (fun i hi => List.mem_cons_of_mem _ hi)); have HD9 := Lib.hid hd9; have HM9 := Lib.hid (HM6.out.only ho9 HMV.out); clear S6 HD6 HM6 hd9 ho9; have hlen := HM9.out.len Tryz.underlying29 3; rw [HLL.out] at hlen; obtain ⟨M2, hM2⟩ : ∃ M2, w9.heap.size = M2 := ⟨_, rfl⟩; obtain ⟨w10, hw10⟩ : ∃ w10, w9.alloc (.map #[] 0) = w10 := ⟨_, rfl⟩; have HX := Lib.hid (fresh_map (L := L) hM2 hw10 hrow2 S9.out HD9.out HM9.out); clear hrow2))
            go_loopw [124] (fun i wr => ∃ (j : Nat), j ≤ nL ∧ i = .int .i64 j ∧ Lo (M :: V :: b.all) w3 [] wr ∧ Hid (DS wr V b (2 * k + 2) E2 H2) ∧ Hid (HasI wr M H2) ∧ Hid (HasB wr M2 (Dm.seenH L j)) ∧ Hid (EntRow wr A2 nL L)) (fun i _ => nL - (intOf i).toNat);
            case atStart => exact ⟨0, Nat.zero_le _, rfl, HX.out.fs, Lib.hid HX.out.fd, Lib.hid HX.out.fm, Lib.hid HX.out.fb, Lib.hid HX.out.fe⟩;
            case round =>
              obtain ⟨j, hj, rfl, hT, HDi, HMi, HBi, HEi⟩ := hrel
              have T := Lib.hid hT
              clear hT
              by_cases hjl : j < nL
              · obtain ⟨e1, he1⟩ : ∃ e1, L[j]? = some e1 := ⟨_, List.getElem?_eq_getElem (by rw [HLN2.out]; exact hjl)⟩
                have HSN := Lib.hid (HSE.out j e1 he1)
                have HNE := Lib.hid HX.out.fq
                have HN1 := Lib.hid HX.out.fv
                have HN2 := Lib.hid HX.out.fn
                have HGE := Lib.hid HX.out.fg
                clear HX
                obtain ⟨pb2, poff2, rfl, hpb2, hpr2⟩ := HEi.out.cells (by omega)
                have HPE := Lib.hid (hpr2 j e1 he1)
                clear hpr2 hpb2 he1
                go_wp2_with (first
                  | (with_reducible refine wpList_load_mid rfl 41 (.tmp 126) rfl pb2 (poff2 + j * 2) rfl (entL e1.1 (strOf e1.2)) _ HPE.out Tryz.underlying41 rfl (by kernel_rfl) ?_)
                  | ((with_reducible refine wpList_store_newrow (vs := entL e1.1 (strOf e1.2)) entT ?_ (entL_one _ _) rfl (.tmp 15) (.tmp 127) rfl rfl ?_ ?_ ?_); (exact rfl); (exact rfl); (exact rfl); intro W11 hP hB2 hz2; have T2 := Lib.hid (T.out.made hP hB2 hz2); have HDb := Lib.hid (HDi.out.below hB2); have HMb := Lib.hid (HMi.out.step hB2); have HBb := Lib.hid (HBi.out.step hB2); have HEb := Lib.hid (HEi.out.below hB2); clear hP hB2 hz2 T HDi HMi HBi HEi; have f0 := (T2.out.get 0 _ rfl).cell 0 _ rfl; have f1 := (T2.out.get 0 _ rfl).cell 1 _ rfl; have el1 : (Instr.lookup 39 (.map (some M2)) (.string (strOf e1.2)) false).run Tryz.prog W11 = .ok (.bool false) W11 := (by have := HBb.out.look pvB Tryz.underlying9 Tryz.underlying39 (strOf e1.2) HSN.out.1; rw [bytes_strOf, HSN.out.2.2.1] at this; exact this); have el2 : (Instr.lookup 29 (.map (some M)) (.string (strOf e1.2)) false).run Tryz.prog W11 = .ok (.int .i64 e1.1) W11 := (by have := HMb.out.look pvI Tryz.underlying9 Tryz.underlying29 (strOf e1.2) HSN.out.1; rw [bytes_strOf, HSN.out.2.1] at this; exact this))
                  | (at_mapUpdate; go_must (refine wpList_has_store HBb.out pvB Tryz.underlying9 Tryz.underlying39 (strOf e1.2) HSN.out.1 1 trivial HSN.out.2.2.2.2 rfl (.tmp 141) (.tmp 143) (.const (.bool true)) rfl rfl rfl rfl ?_); intro w12 hb12 ho12; have T3 : Hid (Lo (M :: V :: b.all) w3 [] w12) := Lib.hid (Lo.none (T2.out.only.fresh ho12 HGE.out) T2.out.low); have HD12 := Lib.hid (HDb.out.only ho12 HN1.out); have HM12 := Lib.hid (HMb.out.only ho12 HN2.out); have HE12 := Lib.hid (HEb.out.only ho12 HNE.out); have HB12 := Lib.hid hb12; clear hb12 ho12 T2 HDb HMb HBb HEb))
                go_roundw
                case rel => exact ⟨j + 1, by omega, by go_num, T3.out, HD12, HM12, Lib.hid (by have := HB12.out; rw [bytes_strOf, HSN.out.2.2.2.1] at this; exact this), HE12⟩
                case measure => simp [intOf]; omega
              · obtain rfl : j = nL := by omega
                go_wp2_with fail
                go_roundw
                case rel => exact ⟨k + 1, E2, H2, by omega, by go_num, T.out, HDi, HMi, HKE2⟩
                case measure => simp [intOf]; omega
      · obtain rfl : k = n := by omega
        go_wp2_with fail
        go_ret
        exact ⟨rfl, HB3.out _ _ S.out⟩
end

section
open Dk (zeros zeros_length)
open Go.RowKit
theorem qinfoB : (Tryz.prog.info? 174).map (·.size) = some 2 := by kernel_rfl
theorem qne_types : (174 : TypeId) ≠ 5 := by decide
theorem qinfo_byte : (Tryz.prog.info? 5).map (fun i => (i.size, i.bytes)) = some (1, 1) := by kernel_rfl
theorem qzero_byte : (Tryz.prog.info? 5).map (fun i => i.zero) = some (some (.int .u8 0)) := by kernel_rfl
abbrev QBuilt (B b : Nat) (l : List UInt8) (w : World) : Prop := Lib.BuilderAt 174 5 B b (.pointer (some ⟨b, 0, none⟩)) (byteVals l) w
theorem qcopyCheck_used (b : Nat) (w : World) (h0 : w.cell? ⟨b, 0, none⟩ = some (.pointer (some ⟨b, 0, none⟩))) :
    Calls Tryz.prog 163 #[.pointer (some ⟨b, 0, none⟩)] w fun e w' => e = .returned (.tuple #[]) ∧ w = w' := by
  obtain ⟨j, hj, _⟩ := Option.map_eq_some_iff.1 qinfoB
  go_enter Tryz.func163, Tryz.ntmps163
  go_wp2
  rw [Lib.run_neq_ptr_same w _ Tryz.underlying172 hj]
  go_wp2
  go_end0
  exact ⟨rfl, rfl⟩
theorem qcopyCheck_fresh (b : Nat) (w : World) (h0 : w.cell? ⟨b, 0, none⟩ = some (.pointer none)) (hsh : w.shape? b = some (174, 2)) (hfz : w.frozen? ⟨b, 0, none⟩ = false) :
    Calls Tryz.prog 163 #[.pointer (some ⟨b, 0, none⟩)] w fun e w' => e = .returned (.tuple #[]) ∧ w.setCell ⟨b, 0, none⟩ (.pointer (some ⟨b, 0, none⟩)) = w' := by
  obtain ⟨j, hj, hjs⟩ := Option.map_eq_some_iff.1 qinfoB
  go_enter Tryz.func163, Tryz.ntmps163
  go_wp2
  rw [Lib.run_to_unsafe w ⟨b, 0, none⟩ Tryz.underlying172 Tryz.underlying225 hj (by rw [hjs]; decide) hsh (Nat.zero_lt_succ 1)]
  simp only [Result.andThen]
  rw [Oper.upon_value]
  go_wp2
  rw [run_callFunc_extern Tryz.func179 (by kernel_rfl) (by kernel_rfl) (by kernel_rfl) (e := Extern.AbiNoEscape.same) (by kernel_rfl)]
  rw [Lib.run_noEscape]
  simp only [Result.andThen]
  rw [Oper.upon_value]
  go_wp2
  rw [Lib.run_from_unsafe w ⟨b, 0, none⟩ Tryz.underlying225 Tryz.underlying172 hj hsh (by kernel_rfl)]
  simp only [Result.andThen]
  rw [Oper.upon_value]
  go_wp2
  go_end0
  exact ⟨rfl, rfl⟩
theorem qheap_lt {w : World} {b : Nat} {o : Obj} (h : w.heap[b]? = some o) : b < w.heap.size := (Array.getElem?_eq_some_iff.1 h).1
theorem qgrow_fresh (B b n : Nat) (w : World) (hB : B ≤ b) (hbk : w.heap[b]? = some (.cells #[.pointer (some ⟨b, 0, none⟩), .slice none 0 0] 174 (0, 0))) (hBw : B ≤ w.heap.size) (hn : n ≤ 1000000) :
    Calls Tryz.prog 164 #[.pointer (some ⟨b, 0, none⟩), .int .i64 (n : Int)] w fun e w' => e = .returned (.tuple #[]) ∧ (QBuilt B b [] w' ∧ Below B w w') := by
  obtain ⟨cs, hrun, hle, hmax⟩ := Lib.run_makeNoZero (P := Tryz.prog) w.drew #[3] 158 5 Tryz.underlying158 n (by omega)
  have hcall : (callFunc 180 #[.int .i64 (n : Int)]).run Tryz.prog w.drew = .ok (.value (.slice (some ⟨w.drew.heap.size, 0, none⟩) n cs.size)) (w.drew.drew.drew.alloc (.cells cs 5)) := by
    rw [run_callFunc_extern Tryz.func180 (by kernel_rfl) (by kernel_rfl) (by kernel_rfl) (e := Extern.BytealgMakeNoZero.makeNoZero #[3] #[158]) (by kernel_rfl), hrun]
    rfl
  have hlt := qheap_lt hbk
  have c1 : w.drew.cell? ⟨b, 1, none⟩ = some (.slice none 0 0) := by
    have : w.drew.heap[b]? = _ := hbk
    rw [Lib.cell_of_heap this]; rfl
  have hb2 : (w.alloc (.cells cs 5)).heap[b]? = _ := (Lib.alloc_old w _ b hlt).trans hbk
  have c2 : (w.alloc (.cells cs 5)).cell? ⟨b, 1, none⟩ = some (.slice none 0 0) := by rw [Lib.cell_of_heap hb2]; rfl
  have f2 : (w.alloc (.cells cs 5)).frozen? ⟨b, 1, none⟩ = false := Lib.frozen_of_heap hb2 1
  have hcopy : ∀ W : World, (Builtin.copy_ #[158, 158] 3 #[.slice (some ⟨w.heap.size, 0, none⟩) 0 cs.size, .slice none 0 0]).run Tryz.prog W = .ok (goInt 0) W :=
    fun W => run_copy_none W 158 158 3 5 _ _ 0 cs.size 0 0 Tryz.underlying158 (by kernel_rfl) rfl
  have hfin := Lib.hid (Lib.grown_fresh (T := 174) (e := 5) (cs := cs) hB hbk hBw (hmax (by unfold maxLen; omega)) qne_types)
  clear hrun hle hmax hb2 hbk hlt
  go_enter Tryz.func164, Tryz.ntmps164
  go_wp2
  go_region
  all_goals (go_wp2; go_end0; exact ⟨rfl, hfin.out⟩)
theorem qgrow_new (B b n : Nat) (w : World) (hB : B ≤ b) (hbk : w.heap[b]? = some (.cells #[.pointer none, .slice none 0 0] 174 (0, 0))) (hBw : B ≤ w.heap.size) (hn : n ≤ 1000000) :
    Calls Tryz.prog 133 #[.pointer (some ⟨b, 0, none⟩), .int .i64 (n : Int)] w fun e w' => e = .returned (.tuple #[]) ∧ (QBuilt B b [] w' ∧ Below B w w') := by
  have hbk1 : (w.setCell ⟨b, 0, none⟩ (.pointer (some ⟨b, 0, none⟩))).heap[b]? = some (.cells #[.pointer (some ⟨b, 0, none⟩), .slice none 0 0] 174 (0, 0)) := by
    simp [World.setCell, Array.getElem?_modify, hbk]
  have hsz : B ≤ (w.setCell ⟨b, 0, none⟩ (.pointer (some ⟨b, 0, none⟩))).heap.size := by simpa [World.setCell] using hBw
  have HC := Lib.hid (qcopyCheck_fresh b w (by rw [Lib.cell_of_heap hbk]; rfl) (by simp [World.shape?, hbk]) (Lib.frozen_of_heap hbk 0))
  have HB1 := Lib.hid ((Below.refl B w).setCell (p := ⟨b, 0, none⟩) hB (.pointer (some ⟨b, 0, none⟩)))
  generalize w.setCell ⟨b, 0, none⟩ (.pointer (some ⟨b, 0, none⟩)) = w1 at hbk1 hsz HC HB1
  have c1 : w1.cell? ⟨b, 1, none⟩ = some (.slice none 0 0) := by rw [Lib.cell_of_heap hbk1]; rfl
  have HU : Hid (QBuilt B b [] w1) := Lib.hid ⟨hB, .slice none 0 0, hbk1, World.ownsRow_nil _ _ _ _, by simp [Value.ownBlock]⟩
  have HG := Lib.hid (qgrow_fresh B b n w1.drew hB hbk1 hsz hn)
  clear hbk1 hbk hsz
  have h0 : ¬ (n : Int) < 0 := by omega
  go_enter Tryz.func133, Tryz.ntmps133
  go_wp2_with (go_at_call 163; refine HC.out.mono ?_; rintro e w' ⟨rfl, rfl⟩)
  go_region
  by_cases hn0 : 0 < n
  all_goals
    go_wp2_with (go_at_call 164; refine HG.out.mono ?_; rintro e w' ⟨rfl, h1, h2⟩)
    first
      | (go_end0; exact ⟨rfl, h1, HB1.out.drew.trans h2⟩)
      | (go_end0; exact ⟨rfl, HU.out.drew, HB1.out.drew⟩)
theorem qwrite_any (B b : Nat) (l : List UInt8) (ad : Addr) (m c : Nat) (news : List UInt8) (w : World) (h : QBuilt B b l w)
    (hl : news.length = m) (hnews : ∀ j u, (byteVals news)[j]? = some u → w.cell? (ad.add j) = some u) (hlen : l.length + m ≤ 1000000) (hBw : B ≤ w.heap.size) :
    Calls Tryz.prog 134 #[.pointer (some ⟨b, 0, none⟩), .slice (some ad) m c] w fun e w' => e = .returned (.tuple #[.int .i64 m, .nilIface]) ∧ (QBuilt B b (l ++ news) w' ∧ Below B w w') := by
  obtain ⟨i, hi, hz⟩ := Option.map_eq_some_iff.1 qinfo_byte
  have hzero : i.zero = some (.int .u8 0) := by
    have := qzero_byte
    rw [hi] at this
    simpa using this
  obtain ⟨hB, v, hbk, hown, hne⟩ := h
  have c0 : w.cell? ⟨b, 0, none⟩ = some (.pointer (some ⟨b, 0, none⟩)) := by rw [Lib.cell_of_heap hbk]; rfl
  have c1 : w.cell? ⟨b, 1, none⟩ = some v := by rw [Lib.cell_of_heap hbk]; rfl
  have HC := Lib.hid (qcopyCheck_used b w c0)
  have hlt := qheap_lt hbk
  rw [byteVals_length] at hown
  go_enter Tryz.func134, Tryz.ntmps134
  go_wp2_with (first
    | (go_at_call 163; refine HC.out.mono ?_; rintro e w' ⟨rfl, rfl⟩)
    | (at_builtin; refine wpList_append_own _ rfl _ _ 158 rfl B 5 i (.int .u8 0) 1 1 Tryz.underlying158 hi hzero (congrArg Prod.fst hz) (congrArg Prod.snd hz) rfl (by decide) _ _ _ rfl hown ad m c (byteVals news) rfl (by rw [byteVals_length]; omega) hnews (byteVals_one _) ?c3 ?c4 hBw ?_))
  case c3 => unfold maxLen; omega
  case c4 => omega
  intro v' w2 hown' hgrow _
  have hb2 : w2.heap[b]? = some (.cells #[.pointer (some ⟨b, 0, none⟩), v] 174 (0, 0)) := (hgrow.block b hlt (fun e => hne e.symm)).trans hbk
  have d0 : w2.cell? ⟨b, 0, none⟩ = some (.pointer (some ⟨b, 0, none⟩)) := by rw [Lib.cell_of_heap hb2]; rfl
  have d1 : w2.cell? ⟨b, 1, none⟩ = some v := by rw [Lib.cell_of_heap hb2]; rfl
  have f1 : w2.frozen? ⟨b, 1, none⟩ = false := Lib.frozen_of_heap hb2 1
  have hbel : Below B w w2 := ⟨hgrow.os, hgrow.tape, hgrow.output, hgrow.size, fun k hk => hgrow.block k (by omega) (fun e => by
    rcases hown.2 with ⟨hv, _⟩ | ⟨g, cap, cur, hv, hg, _⟩
    · rw [hv] at e; cases e
    · rw [hv] at e
      simp only [Value.ownBlock, Option.some.injEq] at e
      omega)⟩
  have HF : Hid (QBuilt B b (l ++ news) (w2.setCell ⟨b, 1, none⟩ v')) := Lib.hid (Lib.BuilderAt.put hB hb2 (by rw [byteVals_length, List.length_append, hl]; unfold byteVals at hown' ⊢; rw [List.map_append]; exact hown') qne_types)
  have HB := Lib.hid (hbel.setCell (p := ⟨b, 1, none⟩) hB v')
  obtain ⟨ao, n', cap, rfl⟩ : ∃ ao n' cap, v' = .slice ao n' cap := by
    rcases hown'.2 with ⟨hv, _⟩ | ⟨g, cap, cur, hv, _⟩
    · exact ⟨_, _, _, hv⟩
    · exact ⟨_, _, _, hv⟩
  clear hbel hown' hgrow hb2 hown hbk hne
  go_wp2
  go_ret2
  exact ⟨rfl, HF.out, HB.out⟩
theorem qstring_some (B b : Nat) (l : List UInt8) (w : World) (h : QBuilt B b l w) (h0 : l ≠ []) (hm : l.length ≤ 1000000) :
    Calls Tryz.prog 135 #[.pointer (some ⟨b, 0, none⟩)] w fun e w' => e = .returned (.string (strOf l)) ∧ Below B w w' := by
  obtain ⟨hB, v, hbk, hown, hne⟩ := h
  have hl0 : l.length ≠ 0 := by simpa using h0
  rw [byteVals_length] at hown
  obtain ⟨g, cap, cur, rfl, hbg, hg, hnc, hcm, hcs, htake⟩ : ∃ g cap cur, v = .slice (some ⟨g, 0, none⟩) l.length cap ∧ B ≤ g ∧ w.heap[g]? = some (.cells cur 5 (0, 0)) ∧ l.length ≤ cap ∧ cap ≤ maxLen ∧ cur.size = cap * 1 ∧ cur.toList.take (l.length * 1) = byteVals l := by
    rcases hown.2 with ⟨_, hz⟩ | ⟨g, cap, cur, hv, r⟩
    · exact absurd hz hl0
    · exact ⟨g, cap, cur, hv, r⟩
  have c1 : w.drew.cell? ⟨b, 1, none⟩ = some (.slice (some ⟨g, 0, none⟩) l.length cap) := by
    have : w.drew.heap[b]? = _ := hbk
    rw [Lib.cell_of_heap this]; rfl
  have hSD : (Builtin.unsafeSliceData_ #[158] 203 #[.slice (some ⟨g, 0, none⟩) l.length cap]).run Tryz.prog w.drew = .ok (.pointer (some ⟨g, 0, none⟩)) w.drew :=
    Lib.run_unsafeSliceData_row _ _ _ _ _ _ (by omega)
  have hUS : (Builtin.unsafeString_ #[203, 3] 9 #[.pointer (some ⟨g, 0, none⟩), .int .i64 l.length]).run Tryz.prog w.drew = .ok (.string (strOf l)) (w.drew.freeze ⟨g, 0, none⟩ l.length) := by
    refine Lib.run_unsafeString_row w.drew 203 3 9 5 Tryz.underlying203 cells8 g cur.size (by have hg' : w.drew.heap[g]? = some (.cells cur 5 (0, 0)) := hg; simp [World.shape?, hg']) l h0 (by omega) (by omega) ?_
    intro j x hx
    exact hown.cells (g := g) rfl j (.int .u8 x.toNat) (by simp [byteVals, hx])
  have HB : Hid (Below B w (w.drew.freeze ⟨g, 0, none⟩ l.length)) := Lib.hid (Lib.below_freeze (Below.drew (Below.refl B w)) (p := ⟨g, 0, none⟩) hbg _)
  have hk : l.length ≤ 9223372036854775807 := by omega
  generalize strOf l = s at hUS ⊢
  clear hown htake hcs hg hbk hne h0 hl0
  go_enter Tryz.func135, Tryz.ntmps135
  go_wp2
  go_region
  all_goals (go_wp2; go_ret; exact ⟨rfl, HB.out⟩)
theorem qstring_nil (B b : Nat) (p : Value) (w : World) (hbk : w.heap[b]? = some (.cells #[p, .slice none 0 0] 174 (0, 0))) :
    Calls Tryz.prog 135 #[.pointer (some ⟨b, 0, none⟩)] w fun e w' => e = .returned (.string (strOf [])) ∧ Below B w w' := by
  have hUS : ∀ (W : World) (q : Option Addr), (Builtin.unsafeString_ #[203, 3] 9 #[.pointer q, .int .i64 0]).run Tryz.prog W = .ok (.string .empty) W := fun W q => Lib.run_unsafeString_none W _ _ _ q
  have c1 : w.drew.cell? ⟨b, 1, none⟩ = some (.slice none 0 0) := by
    have : w.drew.heap[b]? = _ := hbk
    rw [Lib.cell_of_heap this]; rfl
  have hSD : (Builtin.unsafeSliceData_ #[158] 203 #[.slice none 0 0]).run Tryz.prog w.drew = .ok (.pointer none) w.drew := rfl
  clear hbk
  go_enter Tryz.func135, Tryz.ntmps135
  go_wp2
  go_region
  all_goals (go_wp2; go_ret; exact ⟨rfl, Below.drew (Below.refl B w)⟩)
end

section
open Dk (zeros zeros_length)
open Go.RowKit
structure QPageRow (w : World) (A : Option Addr) (n : Nat) (ps : List (List UInt8)) : Prop where
  len : ps.length = n
  small : n ≤ maxLen
  size : ∀ i, i < n → (ps.getD i []).length = 64
  cells : 0 < n → ∃ b off, A = some ⟨b, off, none⟩ ∧ b < w.heap.size ∧ ∀ i, i < n → w.rangeAt b (off + i * 64) (byteVals (ps.getD i []))
theorem flat_one (ps : List (List UInt8)) (k : Nat) (h : k < ps.length) : (ps.take (k + 1)).flatten = (ps.take k).flatten ++ ps.getD k [] := by
  rw [take_one ps [] k h, List.flatten_append]; simp
theorem flat_length (ps : List (List UInt8)) (n : Nat) (hl : ps.length = n) (hs : ∀ i, i < n → (ps.getD i []).length = 64) : ∀ k, k ≤ n → (ps.take k).flatten.length = k * 64
  | 0, _ => by simp
  | k + 1, hk => by
    rw [flat_one ps k (by omega), List.length_append, flat_length ps n hl hs k (by omega), hs k (by omega)]; omega
theorem QBuilt.below {N B b : Nat} {l : List UInt8} {w w' : World} (h : QBuilt B b l w) (hb : Below N w w') (hN : w.heap.size ≤ N) : QBuilt B b l w' := by
  obtain ⟨hB, v, hbk, hown, hne⟩ := h
  have hlt := qheap_lt hbk
  refine ⟨hB, v, (hb.block b (by omega)).trans hbk, ⟨hown.1, ?_⟩, hne⟩
  rcases hown.2 with h1 | ⟨g, cap, cur, hv, hg, hgk, r⟩
  · exact Or.inl h1
  · have := qheap_lt hgk
    exact Or.inr ⟨g, cap, cur, hv, hg, (hb.block g (by omega)).trans hgk, r⟩
theorem qgrow_zero (B b : Nat) (w : World) (hB : B ≤ b) (hbk : w.heap[b]? = some (.cells #[.pointer none, .slice none 0 0] 174 (0, 0))) :
    Calls Tryz.prog 133 #[.pointer (some ⟨b, 0, none⟩), .int .i64 0] w fun e w' => e = .returned (.tuple #[]) ∧ (w'.heap[b]? = some (.cells #[.pointer (some ⟨b, 0, none⟩), .slice none 0 0] 174 (0, 0)) ∧ Below B w w') := by
  have hbk1 : (w.setCell ⟨b, 0, none⟩ (.pointer (some ⟨b, 0, none⟩))).heap[b]? = some (.cells #[.pointer (some ⟨b, 0, none⟩), .slice none 0 0] 174 (0, 0)) := by
    simp [World.setCell, Array.getElem?_modify, hbk]
  have HC := Lib.hid (qcopyCheck_fresh b w (by rw [Lib.cell_of_heap hbk]; rfl) (by simp [World.shape?, hbk]) (Lib.frozen_of_heap hbk 0))
  have HB1 := Lib.hid ((Below.refl B w).setCell (p := ⟨b, 0, none⟩) hB (.pointer (some ⟨b, 0, none⟩)))
  generalize w.setCell ⟨b, 0, none⟩ (.pointer (some ⟨b, 0, none⟩)) = w1 at hbk1 HC HB1
  have c1 : w1.cell? ⟨b, 1, none⟩ = some (.slice none 0 0) := by rw [Lib.cell_of_heap hbk1]; rfl
  have HK : Hid (w1.drew.heap[b]? = _) := Lib.hid hbk1
  clear hbk1 hbk
  go_enter Tryz.func133, Tryz.ntmps133
  go_wp2_with (go_at_call 163; refine HC.out.mono ?_; rintro e w' ⟨rfl, rfl⟩)
  go_region
  go_wp2
  go_end0
  exact ⟨rfl, HK.out, HB1.out.drew⟩
theorem qnew_builder (w : World) : (w.alloc (.cells #[.pointer none, .slice none 0 0] 174)).heap[w.heap.size]? = some (.cells #[.pointer none, .slice none 0 0] 174 (0, 0)) := by
  unfold World.alloc; exact Array.getElem?_push_size
theorem join_zero (A : Option Addr) (c : Nat) (w : World) :
    Calls Tryz.prog 93 #[.slice A 0 c] w fun e w' => e = .returned (.string (strOf [])) ∧ Below w.heap.size w w' := by
  have HB : Hid (Below w.heap.size w (w.alloc (.cells #[.pointer none, .slice none 0 0] 174))) := Lib.hid ((Below.refl _ _).alloc (Nat.le_refl _) _)
  have HG := Lib.hid (qgrow_zero w.heap.size w.heap.size _ (Nat.le_refl _) (qnew_builder w))
  go_enter Tryz.func93, Tryz.ntmps93
  go_wp2_with (go_at_call 133; refine HG.out.mono ?_; rintro e w1 ⟨rfl, hk, hb⟩)
  have HS := Lib.hid (qstring_nil w.heap.size w.heap.size _ w1 hk)
  clear hk
  go_loop [12] (fun i => i = .int .i64 0) (fun _ => 0)
  case atStart => exact rfl
  case round =>
    obtain rfl := hrel
    go_wp2_with (go_at_call 135; refine HS.out.mono ?_; rintro e w2 ⟨rfl, hb2⟩)
    go_ret
    exact ⟨rfl, (HB.out.trans hb).trans hb2⟩
theorem join_row (b off n c : Nat) (ps : List (List UInt8)) (w : World) (hl : ps.length = n) (hn : n ≤ 1000) (hpos : 0 < n) (hb : b < w.heap.size)
    (hsize : ∀ i, i < n → (ps.getD i []).length = 64) (hcell : ∀ i, i < n → w.rangeAt b (off + i * 64) (byteVals (ps.getD i []))) :
    Calls Tryz.prog 93 #[.slice (some ⟨b, off, none⟩) n c] w fun e w' => e = .returned (.string (strOf ps.flatten)) ∧ Below w.heap.size w w' := by
  have HB : Hid (Below w.heap.size w (w.alloc (.cells #[.pointer none, .slice none 0 0] 174))) := Lib.hid ((Below.refl _ _).alloc (Nat.le_refl _) _)
  have hg := qgrow_new w.heap.size w.heap.size (n * 64) _ (Nat.le_refl _) (qnew_builder w) (by simp) (by omega)
  rw [Int.natCast_mul] at hg
  have HG := Lib.hid hg
  clear hg
  have HC := Lib.hid hcell
  have HL := Lib.hid hl
  have HZ := Lib.hid hsize
  have HF := Lib.hid (flat_length ps n hl hsize)
  clear hcell hl hsize
  go_enter Tryz.func93, Tryz.ntmps93
  go_wp2_with fail
  refine HG.out.mono ?_
  rintro e w1 ⟨rfl, hk1, hb1⟩
  have HK1 := Lib.hid hk1
  have HB1 := Lib.hid (HB.out.trans hb1)
  clear hk1 hb1 HG HB
  go_wp2_with fail
  go_loopw [12] (fun i wr => ∃ k : Nat, k ≤ n ∧ i = .int .i64 k ∧ QBuilt w.heap.size w.heap.size (ps.take k).flatten wr ∧ Below w.heap.size w wr) (fun i _ => n - (intOf i).toNat)
  case atStart => exact ⟨0, Nat.zero_le _, rfl, HK1.out, HB1.out⟩
  case round =>
    obtain ⟨k, hk, rfl, hbk, hbel⟩ := hrel
    have HBK := Lib.hid hbk
    clear hbk
    have hfl := HF.out k hk
    by_cases hlt : k < n
    · have HS := Lib.hid (flat_one ps k (by rw [HL.out]; exact hlt))
      have hcr : Hid (wr.rangeAt b (off + k * 64) (byteVals (ps.getD k []))) := Lib.hid fun j v hv => (hbel.cell (p := ⟨b, off + k * 64 + j, none⟩) hb).trans (HC.out k hlt j v hv)
      have hz := Lib.hid (HZ.out k hlt)
      generalize ps.getD k [] = p at hcr HS hz
      have hlen : Hid ((byteVals p).length = 64) := Lib.hid (by rw [byteVals_length]; exact hz.out)
      have hfl' : (ps.take k).flatten.length ≤ 64000 := by omega
      clear hfl
      generalize (ps.take k).flatten = l at HBK HS hfl'
      go_wp2_with (first
        | (with_reducible refine wpList_load_mid rfl 97 (.tmp 14) rfl b (off + k * 64) rfl (byteVals p) _ hcr.out Tryz.underlying97 rfl (page_info.trans (congrArg some hlen.out.symm)) ?_)
        | ((with_reducible refine wpList_store_new rfl (.tmp 5) (.tmp 15) rfl rfl ?_ ?_ hz.out ?_); (exact rfl); (exact rfl); intro W2 hP hB2 hz2
           have hsl := run_slice_page_all W2 wr.heap.size
           have HW := Lib.hid (qwrite_any w.heap.size w.heap.size l ⟨wr.heap.size, 0, none⟩ 64 64 p W2 (HBK.out.below hB2 (Nat.le_refl _)) hz.out (fun j u hu => by rw [Addr.add_mid]; exact hP.range j u hu) (by omega) (Nat.le_trans hbel.size hB2.size)))
        | (go_at_call 134; refine HW.out.mono ?_; rintro e w3 ⟨rfl, hk3, hb3⟩))
      go_roundw
      case rel => exact ⟨k + 1, by omega, by go_num, by rw [HS.out]; exact hk3, (hbel.trans (hB2.mono hbel.size)).trans hb3⟩
      case measure => simp [intOf]; omega
    · have HKK : ps.take k = ps := List.take_of_length_le (by rw [HL.out]; omega)
      obtain rfl : k = n := by omega
      rw [HKK] at HBK hfl
      have HS := Lib.hid (qstring_some w.heap.size w.heap.size ps.flatten wr HBK.out (fun e => by rw [e] at hfl; simp at hfl; omega) (by omega))
      clear hfl HKK
      go_wp2_with (go_at_call 135; refine HS.out.mono ?_; rintro e w2 ⟨rfl, hb2⟩)
      go_ret
      exact ⟨rfl, hbel.trans hb2⟩
theorem qjoin_any (A : Option Addr) (n c : Nat) (ps : List (List UInt8)) (w : World) (h : QPageRow w A n ps) (hn : n ≤ 1000) :
    Calls Tryz.prog 93 #[.slice A n c] w fun e w' => e = .returned (.string (strOf ps.flatten)) ∧ Below w.heap.size w w' := by
  by_cases h0 : n = 0
  · subst h0
    have hs : ps = [] := List.eq_nil_of_length_eq_zero h.len
    subst hs
    exact join_zero A c w
  · obtain ⟨b, off, rfl, hlt, hc⟩ := h.cells (by omega)
    exact join_row b off n c ps w h.len hn (by omega) hlt h.size hc
end

section
open Dk (zeros zeros_length)
open Go.RowKit
structure QRowAt (w : World) (b : Nat) (L : List UInt8) : Prop where
  range : w.rangeAt b 0 (byteVals L)
  free : w.there b 0 L.length
theorem qrowAt_new (w : World) (L : List UInt8) (t : TypeId) : QRowAt (w.alloc (.cells (byteVals L).toArray t)) w.heap.size L where
  range := fun j v hv => by
    rw [Nat.zero_add, World.cell?_alloc_mark]
    simpa using hv
  free := there_new w _ t _ (by rw [List.size_toArray, byteVals_length]; omega)
theorem QRowAt.over {w : World} {b : Nat} {L : List UInt8} (h : QRowAt w b L) (a : Nat) (s : List UInt8) (hs : a + s.length ≤ L.length) : QRowAt (w.setCells b a (byteVals s)) b (Pg.over L a s) where
  range := fun j v hv => by
    rw [Nat.zero_add]
    have hv' : (Pg.over L a s)[j]?.map (fun c => Value.int .u8 (c.toNat : Int)) = Option.some v := by rw [← hv]; unfold byteVals; rw [List.getElem?_map]
    rw [Pg.over_at _ _ _ _ hs] at hv'
    by_cases h1 : a ≤ j ∧ j < a + s.length
    · rw [if_neg (by omega), if_pos h1.2] at hv'
      have hin := World.cell?_setCells_in b (byteVals s) a w (fun i hi => by
        have := (h.free (a + i) (by rw [byteVals_length] at hi; omega)).1
        rwa [Nat.zero_add] at this) (j - a) (by rw [byteVals_length]; omega)
      rw [show a + (j - a) = j by omega] at hin
      rw [hin, ← hv', ← List.getElem?_eq_getElem]
      unfold byteVals
      rw [List.getElem?_map]
    · rw [World.cell?_setCells_out b (byteVals s) a w ⟨b, j, none⟩ (fun _ _ => by rw [byteVals_length]; show j < a ∨ a + s.length ≤ j; omega)]
      have hpj : L[j]?.map (fun c => Value.int .u8 (c.toNat : Int)) = Option.some v := by
        by_cases h2 : j < a
        · rw [if_pos h2] at hv'; exact hv'
        · rw [if_neg h2, if_neg (by omega)] at hv'; exact hv'
      have := h.range j v (by unfold byteVals; rw [List.getElem?_map]; exact hpj)
      rwa [Nat.zero_add] at this
  free := by
    rw [Pg.over_length _ _ _ hs]
    exact World.there_setCells h.free _ _ _
theorem QRowAt.drew {w : World} {b : Nat} {L : List UInt8} (h : QRowAt w b L) : QRowAt w.drew b L := ⟨(World.rangeAt_drew ..).2 h.range, (World.there_drew ..).2 h.free⟩
theorem QRowAt.part {w : World} {b : Nat} {L : List UInt8} (h : QRowAt w b L) (a n : Nat) : w.rangeAt b a (byteVals ((L.drop a).take n)) := fun j v hv => by
  unfold byteVals at hv
  rw [List.getElem?_map, List.getElem?_take] at hv
  by_cases hj : j < n
  · rw [if_pos hj, List.getElem?_drop] at hv
    have := h.range (a + j) v (by unfold byteVals; rw [List.getElem?_map]; exact hv)
    rwa [Nat.zero_add] at this
  · rw [if_neg hj] at hv; cases hv
theorem qmade_zero (N : Nat) : madeCells (Value.agg zeroCells).cells N = (byteVals (List.replicate N 0)).toArray := by
  apply Array.ext'
  have hz : ∀ i, i < 64 → (zeroCells : Array Value)[i]! = .int .u8 0 := fun i hi => by
    have h1 : zeroCells[i]? = some (.int .u8 0) := by
      unfold zeroCells
      rw [List.getElem?_toArray, byteVals_at zeros i (by rw [zeros_length]; exact hi)]
      have h2 : ∀ (j : Nat) (hj : j < zeros.length), zeros[j] = 0 := fun j hj => List.getElem_replicate ..
      rw [h2]; rfl
    rw [getElem!_def, h1]
  have hs : (Value.agg zeroCells).cells = zeroCells := rfl
  have hsz : zeroCells.size = 64 := rfl
  rw [hs]
  unfold madeCells
  rw [hsz, Array.toList_map, Array.toList_range]
  unfold byteVals
  rw [List.map_replicate]
  apply List.ext_getElem
  · simp
  · intro i h1 h2
    simp only [List.getElem_map, List.getElem_range, List.getElem_replicate]
    exact hz _ (Nat.mod_lt _ (by omega))
theorem qinfo_page : (Tryz.prog.info? 97).map (fun i => (i.zero, i.size, i.bytes)) = some (some (.agg zeroCells), 64, 64) := by kernel_rfl
theorem qrun_make_pages (w : World) (n : Nat) (hn : n ≤ 1000) : (Instr.makeSlice 86 (.int .i64 (n : Int)) (.int .i64 (n : Int))).run Tryz.prog w = .ok (.slice (some ⟨w.heap.size, 0, none⟩) n n) (w.alloc (.cells (byteVals (List.replicate (n * 64) 0)).toArray 97)) := by
  obtain ⟨i, hi, hz, hs, hb⟩ := info_parts qinfo_page
  have := run_make (P := Tryz.prog) w 86 97 i (.agg zeroCells) Tryz.underlying86 hi hz .i64 .i64 (n : Int) (n : Int) (by omega) (by omega) (by rw [hb]; omega) (by omega)
  rw [hs, Int.toNat_natCast, qmade_zero] at this
  exact this
theorem run_slice_part (w : World) (b o : Nat) :
    (Instr.sliceAt 97 (.pointer (some ⟨b, o, none⟩)) none none none).run Tryz.prog w = .ok (.slice (some ⟨b, o, none⟩) 64 64) w := by
  rw [run_sliceAt_array_all w _ _ underP, elemP, run_size8, arrP, Result.andThen_ok]
  unfold slicedAt
  rw [if_neg (by omega), Nat.zero_mul, Addr.add_mid, Nat.add_zero]
theorem run_copy_part (w : World) (b o : Nat) (s : ByteArray) (a : Nat) (l : List UInt8) (hl : l = (s.data.toList.drop a).take 64) (ha : a ≤ s.size) (ht : w.there b o l.length) :
    (Builtin.copy_ #[158, 9] 3 #[.slice (some ⟨b, o, none⟩) 64 64, .string (s.extract a s.size)]).run Tryz.prog w = .ok (goInt l.length) (w.setCells b o (byteVals l)) := by
  have hu : (s.extract a s.size).data.toList = s.data.toList.drop a := by
    rw [ByteArray.data_extract, Array.toList_extract]
    apply List.take_of_length_le
    simp
  have husz : (s.extract a s.size).size = s.size - a := by simp
  have hll : l.length = min 64 (s.size - a) := by rw [hl]; simp
  have hmin : Nat.min (s.extract a s.size).size 64 = l.length := by rw [husz, hll]; exact Nat.min_comm _ _
  have hcells : ((s.extract a s.size).extract 0 l.length).data.map (fun b => Value.int .u8 (b.toNat : Int)) = (byteVals l).toArray := by
    unfold byteVals
    apply Array.ext'
    rw [Array.toList_map]
    congr 1
    rw [ByteArray.data_extract, Array.toList_extract, hu, List.extract_eq_take_drop, List.drop_zero, Nat.sub_zero]
    conv => rhs; rw [hl]
    rw [List.take_eq_take_iff]
    rw [hll]
    simp
  have hst := run_storeCells_cells (P := Tryz.prog) b o (byteVals l) 0 w (fun j hj => (ht j (by rw [byteVals_length] at hj; exact hj)).1) (fun j hj => (ht j (by rw [byteVals_length] at hj; exact hj)).2) (byteVals_one _)
  rw [Nat.add_zero] at hst
  have hsz := run_size8 w
  unfold Builtin.copy_
  simp only [List.getElem?_toArray, List.getElem?_cons_zero, List.getElem?_cons_succ, Sem.run_bind, run_underlying Tryz.underlying158, Result.andThen_ok, Builtin.lenOf, Sem.run_pure, hmin, hsz, Builtin.firstCells, hcells, hst]
theorem qover_over (p a c : List UInt8) : Pg.over (Pg.over p 0 a) a.length c = Pg.over p 0 (a ++ c) := by
  unfold Pg.over
  simp [List.drop_append, List.take_append]
def qpadded (n : Nat) (l : List UInt8) : List UInt8 := Pg.over (List.replicate (n * 64) 0) 0 l
theorem split_walk (s : ByteArray) (n : Nat) (w : World) (hn : n = (s.size + 63) / 64) (hs : s.size ≤ 60000) :
    Calls Tryz.prog 88 #[.string s] w fun e w' => e = .returned (.slice (some ⟨w.heap.size, 0, none⟩) n n) ∧ QRowAt w' w.heap.size (qpadded n s.data.toList) ∧ w.heap.size < w'.heap.size ∧ Below w.heap.size w w' := by
  have hq : ((s.size : Int) + 64 - 1) / 64 = (n : Int) := by omega
  have hmk := qrun_make_pages w n (by omega)
  have HN := Lib.hid hn
  clear hn
  go_enter Tryz.func88, Tryz.ntmps88
  go_wp2_with fail
  have HR := Lib.hid (qrowAt_new w (List.replicate (n * 64) 0) 97)
  have HB : Hid (Below w.heap.size w (w.alloc (.cells (byteVals (List.replicate (n * 64) 0)).toArray 97))) := Lib.hid ((Below.refl _ _).alloc (Nat.le_refl _) _)
  have hz : w.heap.size < (w.alloc (.cells (byteVals (List.replicate (n * 64) 0)).toArray 97)).heap.size := by simp
  have HZ := Lib.hid hz
  clear hz hmk hq
  generalize w.alloc (.cells (byteVals (List.replicate (n * 64) 0)).toArray 97) = w1 at HR HB HZ ⊢
  go_loopw [13] (fun i wr => ∃ k : Nat, k ≤ n ∧ i = .int .i64 k ∧ QRowAt wr w.heap.size (qpadded n (s.data.toList.take (k * 64))) ∧ w.heap.size < wr.heap.size ∧ Below w.heap.size w wr) (fun i _ => n - (intOf i).toNat)
  case atStart => exact ⟨0, Nat.zero_le _, rfl, by rw [Nat.zero_mul, List.take_zero, qpadded, Pg.over_nil]; exact HR.out, HZ.out, HB.out⟩
  case round =>
    obtain ⟨k, hk, rfl, hr, hsz, hbel⟩ := hrel
    have HRK := Lib.hid hr
    clear hr
    by_cases hlt : k < n
    · have hsl := run_slice_part wr.drew w.heap.size (k * 64)
      have hb1 : (k : Int) * 64 ≤ (s.size : Int) := by have := HN.out; omega
      have hb0 : 0 ≤ (k : Int) * 64 := by omega
      obtain ⟨l, hl⟩ : ∃ l, l = (s.data.toList.drop (k * 64)).take 64 := ⟨_, rfl⟩
      have hll : l.length ≤ 64 := by rw [hl]; simp; omega
      have htk : (s.data.toList.take (k * 64)).length = k * 64 := by simp; omega
      have hstep : qpadded n (s.data.toList.take ((k + 1) * 64)) = Pg.over (qpadded n (s.data.toList.take (k * 64))) (k * 64) l := by
        unfold qpadded
        have := qover_over (List.replicate (n * 64) 0) (s.data.toList.take (k * 64)) l
        rw [htk] at this
        rw [this, hl, Nat.add_mul, Nat.one_mul, List.take_add]
      have hfit : k * 64 + l.length ≤ (qpadded n (s.data.toList.take (k * 64))).length := by
        unfold qpadded
        rw [Pg.over_length _ _ _ (by rw [htk, List.length_replicate]; omega), List.length_replicate]; omega
      have hcp := run_copy_part wr.drew w.heap.size (k * 64) s (k * 64) l hl (by omega) (fun j hj => by
        have := HRK.out.drew.free (k * 64 + j) (by omega)
        rwa [Nat.zero_add] at this)
      have HR2 := Lib.hid (HRK.out.drew.over (k * 64) l hfit)
      have HS := Lib.hid hstep
      clear hl htk hstep hfit hll
      go_wp2_with fail
      go_region
      go_wp2_with fail
      go_roundw
      case rel =>
        refine ⟨k + 1, by omega, by go_num, by rw [HS.out]; exact HR2.out, ?_, ?_⟩
        · rw [heap_setCells]; exact hsz
        · exact below_setCells _ (Nat.le_refl _) _ _ _ hbel.drew
      case measure => simp [intOf]; omega
    · have htk : s.data.toList.take (k * 64) = s.data.toList := List.take_of_length_le (by have := HN.out; simp; omega)
      rw [htk] at HRK
      clear htk
      go_wp2
      go_ret
      exact ⟨rfl, HRK.out, hsz, hbel⟩
end

section
open Dk (zeros zeros_length)
open Go.RowKit
def qchunks (n : Nat) (L : List UInt8) : List (List UInt8) := (List.range n).map fun i => (L.drop (i * 64)).take 64
theorem chunks_length (n : Nat) (L : List UInt8) : (qchunks n L).length = n := by simp [qchunks]
theorem chunks_at (n : Nat) (L : List UInt8) (i : Nat) (h : i < n) : (qchunks n L).getD i [] = (L.drop (i * 64)).take 64 := by
  unfold qchunks
  rw [List.getD_eq_getElem?_getD, List.getElem?_map, List.getElem?_range h]; rfl
theorem padded_eq (n : Nat) (l : List UInt8) : qpadded n l = l ++ List.replicate (n * 64 - l.length) 0 := by
  unfold qpadded Pg.over
  simp [List.drop_replicate]
theorem padded_length (n : Nat) (l : List UInt8) (h : l.length ≤ n * 64) : (qpadded n l).length = n * 64 := by
  rw [padded_eq]; simp; omega
theorem padded_full (n : Nat) (l : List UInt8) (h : l.length = n * 64) : qpadded n l = l := by
  rw [padded_eq, h]; simp
theorem QRowAt.pages {w : World} {b n : Nat} {L : List UInt8} (h : QRowAt w b L) (hL : L.length = n * 64) (hb : b < w.heap.size) (hn : n ≤ 1000) : QPageRow w (some ⟨b, 0, none⟩) n (qchunks n L) where
  len := chunks_length n L
  small := by unfold maxLen; omega
  size := fun i hi => by rw [chunks_at n L i hi]; simp; omega
  cells := fun _ => ⟨b, 0, rfl, hb, fun i hi => by rw [chunks_at n L i hi, Nat.zero_add]; exact h.part (i * 64) 64⟩
theorem qsplit_any (s : ByteArray) (n : Nat) (w : World) (hn : n = (s.size + 63) / 64) (hs : s.size ≤ 60000) :
    Calls Tryz.prog 88 #[.string s] w fun e w' => e = .returned (.slice (some ⟨w.heap.size, 0, none⟩) n n) ∧ QPageRow w' (some ⟨w.heap.size, 0, none⟩) n (qchunks n (qpadded n s.data.toList)) ∧ w.heap.size < w'.heap.size ∧ Below w.heap.size w w' := by
  refine (split_walk s n w hn hs).mono ?_
  rintro e w' ⟨rfl, hr, hz, hb⟩
  exact ⟨rfl, hr.pages (padded_length n _ (by simp; omega)) hz (by omega), hz, hb⟩
end

section
open Go.RowKit Go.Maps
open Dk (zeros zeros_length)
open Ii (Ino)
open Dm (Ent Has)
open Fs (flat View)
def entE (e : Ent) : List Value := entL e.1 (strOf e.2)
theorem entE_length (e : Ent) : (entE e).length = 2 := rfl
theorem entE_one (e : Ent) : ∀ v ∈ entE e, v.oneCell' = true := entL_one _ _
def slotE (e : Ent) : List UInt8 := Nm.slot e.1 e.2
theorem eL_slotE {e : Ent} (h : Nm.standB e.1 e.2 = true) : eL (slotE e) = entE e ∧ okE (slotE e) = true := by
  unfold eL okE slotE entE
  rw [Nm.ent_slot h]
  exact ⟨rfl, rfl⟩
theorem blocks_range (t : List UInt8) : ∀ k, blocks (qchunks k t) = (List.range (4 * k)).map fun i => Nm.at_ t i
  | 0 => rfl
  | k + 1 => by
    have e : qchunks (k + 1) t = qchunks k t ++ [(t.drop (k * 64)).take 64] := by unfold qchunks; rw [List.range_succ, List.map_append]; rfl
    have hs : slots ((t.drop (k * 64)).take 64) = [Nm.at_ t (4 * k), Nm.at_ t (4 * k + 1), Nm.at_ t (4 * k + 2), Nm.at_ t (4 * k + 3)] := by
      unfold slots
      rw [Nat.mul_comm k 64, Dm.at_page t k 0 (by omega), Dm.at_page t k 1 (by omega), Dm.at_page t k 2 (by omega), Dm.at_page t k 3 (by omega)]
      rfl
    have hb : blocks (qchunks (k + 1) t) = blocks (qchunks k t) ++ slots ((t.drop (k * 64)).take 64) := by
      rw [e]; unfold blocks; rw [List.flatMap_append]; simp
    rw [hb, hs, blocks_range t k, show 4 * (k + 1) = 4 * k + 1 + 1 + 1 + 1 by omega, List.range_succ, List.range_succ, List.range_succ, List.range_succ]
    simp
theorem at_take (F : List UInt8) (m i : Nat) (h : 16 * i + 16 ≤ m) : Nm.at_ (F.take m) i = Nm.at_ F i := by
  apply List.ext_getElem?
  intro j
  rw [Nm.at_get, Nm.at_get]
  split
  · rw [List.getElem?_take, if_pos (by omega)]
  · rfl
def pagesE (E : List Ent) (F : List UInt8) : List (List UInt8) := qchunks (E.length / 4) (F.take (16 * E.length))
theorem pagesE_length (E : List Ent) (F : List UInt8) : (pagesE E F).length = E.length / 4 := chunks_length _ _
theorem blocks_dir {E : List Ent} {F : List UInt8} {H : Has} (h : Dm.Bytes E F) (o : Dm.Ok E H) : blocks (pagesE E F) = E.map slotE := by
  have h4 := o.four
  unfold pagesE
  rw [blocks_range, show 4 * (E.length / 4) = E.length by omega]
  apply List.ext_getElem?
  intro i
  rw [List.getElem?_map, List.getElem?_map]
  by_cases c : i < E.length
  · obtain ⟨e, he⟩ : ∃ e, E[i]? = some e := ⟨_, List.getElem?_eq_getElem c⟩
    rw [List.getElem?_range c, he]
    show some (Nm.at_ (F.take (16 * E.length)) i) = some (slotE e)
    rw [at_take F (16 * E.length) i (by omega), h.at1 i e he]
    rfl
  · rw [List.getElem?_eq_none (by rw [List.length_range]; omega), List.getElem?_eq_none (by omega)]
    rfl
theorem allOk_dir {E : List Ent} (h : ∀ e ∈ E, Nm.standB e.1 e.2 = true) : allOk (E.map slotE) = true ∧ (E.map slotE).flatMap eL = E.flatMap entE := by
  induction E with
  | nil => exact ⟨rfl, rfl⟩
  | cons e t ih =>
    obtain ⟨i1, i2⟩ := ih (fun x hx => h x (List.mem_cons_of_mem _ hx))
    obtain ⟨j1, j2⟩ := eL_slotE (h e (List.mem_cons_self ..))
    refine ⟨?_, ?_⟩
    · unfold allOk at i1 ⊢
      rw [List.map_cons, List.all_cons, j2, i1]
      rfl
    · rw [List.map_cons, List.flatMap_cons, List.flatMap_cons, j1, i2]
theorem pagesE_at {E : List Ent} {F : List UInt8} (j : Nat) (hj : 4 * j < E.length) (h4 : E.length % 4 = 0) : (pagesE E F)[j]? = some ((F.drop (64 * j)).take 64) := by
  unfold pagesE qchunks
  rw [List.getElem?_map, List.getElem?_range (by omega)]
  show some (((F.take (16 * E.length)).drop (j * 64)).take 64) = some _
  congr 1
  rw [List.drop_take, List.take_take, Nat.mul_comm j 64, Nat.min_eq_left (by omega)]
theorem Dm.Dr.whole {n I : Int} {V : View} {x : Ino} {u : Nat} {P : Nat → List UInt8} {E : List Ent} {H : Has} (h : Dm.Dr n I V x u P E H) : Fs.readF n I 1 0 67840 V = .ok ((flat P 36).take (16 * E.length)) := by
  have h1 := h.rt.read 0 (16 * E.length) (by rw [h.size]; omega)
  have hf := h.few
  unfold Fs.readF at h1 ⊢
  rw [h.rt.taken] at h1 ⊢
  simp only [] at h1 ⊢
  rw [if_neg (by omega)] at h1 ⊢
  rw [h.size] at h1 ⊢
  have e1 : (min ((16 * E.length : Nat) : Int) (16 * (E.length : Int) - ((0 : Nat) : Int))).toNat = 16 * E.length := by omega
  have e2 : (min (67840 : Int) (16 * (E.length : Int) - 0)).toNat = 16 * E.length := by omega
  rw [e1] at h1
  rw [e2]
  exact h1
theorem flatE_length (E : List Ent) : (E.flatMap entE).length = E.length * 2 := by
  induction E with
  | nil => rfl
  | cons b t ih => rw [List.flatMap_cons, List.length_append, ih, entE_length, List.length_cons]; omega
theorem flatE_at : ∀ (E : List Ent) (i : Nat) (e : Ent) (j : Nat) (v : Value), E[i]? = some e → (entE e)[j]? = some v → (E.flatMap entE)[i * 2 + j]? = some v
  | [], i, x, j, v, hx, _ => by simp at hx
  | y :: r, 0, x, j, v, hx, hv => by
    simp at hx
    subst hx
    have hj : j < 2 := (List.getElem?_eq_some_iff.1 hv).1
    rw [List.flatMap_cons, Nat.zero_mul, Nat.zero_add, List.getElem?_append_left (by rw [entE_length]; exact hj)]
    exact hv
  | y :: r, i + 1, x, j, v, hx, hv => by
    rw [List.flatMap_cons, List.getElem?_append_right (by rw [entE_length]; omega), entE_length, show (i + 1) * 2 + j - 2 = i * 2 + j by omega]
    exact flatE_at r i x j v (by simpa using hx) hv
end

section
open Go.RowKit Go.Maps
open Dk (zeros zeros_length)
open Ii (Ino)
theorem sinode_yes {w : World} {B : Nat} {b : Blk} {s : Sto} {n I : Int} (h : Ctx w B b s n I) (i : Int) (c : 1 ≤ i ∧ i ≤ I) : Calls Tryz.prog 45 #[.pointer (some ⟨B, 0, none⟩), .int .i64 i] w fun e w' => e = .returned (inoV (Fs.inoAt (nv s) i)) ∧ Below w.heap.size w w' := by
  have S := Lib.hid (ino_box w)
  have HB : Hid (∀ W l, Lo [] w l W → W.rangeAt B 0 (baseL b.s n I)) := Lib.hid (fun W l hl => (Lo.ctx (L := []) hl h).step.base)
  have HG : Hid (∀ W l, Lo [] w l W → Calls Tryz.prog 35 #[.pointer (some ⟨B, 0, none⟩)] W fun e w' => e = .returned (.bool true) ∧ W = w') := Lib.hid (fun W l hl => goesOn_any (Lo.ctx (L := []) hl h))
  have HT : Hid (∀ W l, Lo [] w l W → Calls Tryz.prog 80 #[baseV b.s n I, .int .i64 i] W fun e w' => e = .returned (.tuple #[inoV (Fs.inoAt (nv s) i), .int .i64 0]) ∧ Below W.heap.size W w') := Lib.hid (fun W l hl => binode_yes (hl.store h.store) h.vs i c.1 c.2)
  clear h c
  generalize Fs.inoAt (nv s) i = x at HT ⊢
  go_enter Tryz.func45, Tryz.ntmps45
  go_wp2_with (first
    | (go_at_call 35; refine (HG.out _ _ S.out).mono ?_; rintro e w1 ⟨rfl, rfl⟩)
    | (with_reducible refine wpList_load_base (HB.out _ _ S.out) rfl (.tmp 14) rfl rfl ?_)
    | (go_at_call 80; refine (HT.out _ _ S.out).mono ?_; rintro e w1 ⟨rfl, hb⟩; replace S := Lib.hid (S.out.below hb); clear hb)
    | ((with_reducible refine wpList_store_newrow (vs := inoL x) inoT ?_ (inoL_one _) rfl (.tmp 5) (.tmp 18) rfl rfl ?_ ?_ ?_); (exact rfl); (exact rfl); (exact rfl); intro W4 hP hB2 hz2; replace S := Lib.hid (S.out.made hP hB2 hz2); clear hP hB2 hz2)
    | (go_at_call 81; (with_reducible refine (must_ok _).mono ?_); rintro e w1 ⟨rfl, rfl⟩)
    | (with_reducible refine wpList_load_rw inoT (S.out.get 1 _ rfl) rfl rfl (.tmp 5) rfl rfl ?_)
    | ((with_reducible refine wpList_store_rw (vs := inoL x) inoT (S.out.get 0 _ rfl) ?_ ?_ (inoL_one _) rfl (.tmp 4) (.tmp 23) rfl ?_ ?_ ?_); (exact rfl); (exact rfl); (exact rfl); (exact rfl)))
  have S2 := Lib.hid (S.out.put 0 _ rfl (inoL x) rfl)
  exact bodyPost_ret (results_row1 inoT _ 4 rfl _ (S2.out.get 0 _ rfl) rfl rfl) rfl ⟨rfl, S2.out.bel⟩
theorem sread_yes {w : World} {B : Nat} {b : Blk} {s : Sto} {n I : Int} (h : Ctx w B b s n I) (i off cnt : Int) (h1 : off ≤ 9223372036854775807) {t : List UInt8} (hx : Fs.readF n I i off cnt (nv s) = .ok t) : Calls Tryz.prog 89 #[.pointer (some ⟨B, 0, none⟩), .int .i64 i, .int .i64 off, .int .i64 cnt] w fun e w' => e = .returned (.string (strOf t)) ∧ Below w.heap.size w w' := by
  have HB : Hid (w.rangeAt B 0 (baseL b.s n I)) := Lib.hid h.step.base
  have HG := Lib.hid (goesOn_any h)
  have HT := Lib.hid (bread_any h.store h.vs i off cnt h1)
  rw [hx] at HT
  simp only [exV] at HT
  clear h hx h1
  go_enter Tryz.func89, Tryz.ntmps89
  go_wp2_with (first
    | (go_at_call 35; refine HG.out.mono ?_; rintro e w1 ⟨rfl, rfl⟩)
    | (with_reducible refine wpList_load_base HB.out rfl (.tmp 17) rfl rfl ?_)
    | (go_at_call 131; refine HT.out.mono ?_; rintro e w1 ⟨rfl, hb⟩)
    | (go_at_call 81; (with_reducible refine (must_ok _).mono ?_); rintro e w1 ⟨rfl, rfl⟩))
  go_ret
  exact ⟨rfl, hb⟩
def dirL (B : Nat) (i : Int) : List Value := [.pointer (some ⟨B, 0, none⟩), .int .i64 i]
abbrev dirV (B : Nat) (i : Int) : Value := .agg #[.pointer (some ⟨B, 0, none⟩), .int .i64 i]
theorem dirL_one (B : Nat) (i : Int) : ∀ v ∈ dirL B i, v.oneCell' = true := by
  intro v hv
  simp only [dirL, List.mem_cons, List.not_mem_nil, or_false] at hv
  rcases hv with rfl | rfl <;> rfl
theorem dirT : RowT 52 2 := ⟨⟨_, Tryz.underlying52, rfl⟩, by kernel_rfl⟩
theorem dir_box (w : World) : Lo [] w [(w.heap.size, [.pointer none, .int .i64 0])] (w.alloc (.cells #[.pointer none, .int .i64 0] 52)) :=
  (Lo.start w (by simp)).alloc _ rfl [.pointer none, .int .i64 0] _
def ofE (I i : Int) (V : Fs.View) : Int := if 1 ≤ i ∧ i ≤ I then (if (Fs.inoAt V i).k = 2 then 0 else if (Fs.inoAt V i).k = 0 then 22 else 20) else 22
theorem of_yes {w : World} {B : Nat} {b : Blk} {s : Sto} {n I : Int} (h : Ctx w B b s n I) (i : Int) (hx : ofE I i (nv s) = 0) : Calls Tryz.prog 16 #[.pointer (some ⟨B, 0, none⟩), .int .i64 i] w fun e w' => e = .returned (dirV B i) ∧ Below w.heap.size w w' := by
  unfold ofE at hx
  by_cases c : 1 ≤ i ∧ i ≤ I
  · rw [if_pos c] at hx
    by_cases k2 : (Fs.inoAt (nv s) i).k = 2
    · have S := Lib.hid (dir_box w)
      have HI : Hid (∀ W l, Lo [] w l W → Calls Tryz.prog 45 #[.pointer (some ⟨B, 0, none⟩), .int .i64 i] W fun e w' => e = .returned (inoV (Fs.inoAt (nv s) i)) ∧ Below W.heap.size W w') := Lib.hid (fun W l hl => sinode_yes (Lo.ctx (L := []) hl h) i c)
      clear h c hx
      generalize Fs.inoAt (nv s) i = x at HI k2
      have hfd : ∀ W : World, (Instr.field 47 (inoV x) 0).run Tryz.prog W = .ok (.int .i64 2) W := fun W => by rw [← k2]; kernel_rfl
      clear k2
      go_enter Tryz.func16, Tryz.ntmps16
      go_wp2_with (first
        | (go_at_call 45; refine (HI.out _ _ S.out).mono ?_; rintro e w1 ⟨rfl, hb⟩; replace S := Lib.hid (S.out.below hb); clear hb)
        | ((with_reducible refine wpList_store_rw (vs := dirL B i) dirT (S.out.get 0 _ rfl) ?_ ?_ (dirL_one _ _) rfl (.tmp 4) (.tmp 19) rfl ?_ ?_ ?_); (exact rfl); (exact rfl); (exact rfl); (exact rfl)))
      have S2 := Lib.hid (S.out.put 0 _ rfl (dirL B i) rfl)
      exact bodyPost_ret (results_row1 dirT _ 4 rfl _ (S2.out.get 0 _ rfl) rfl rfl) rfl ⟨rfl, S2.out.bel⟩
    · rw [if_neg k2] at hx
      split at hx <;> exact absurd hx (by decide)
  · rw [if_neg c] at hx
    exact absurd hx (by decide)
end

section
open Go.RowKit Go.Maps
open Dk (zeros zeros_length)
open Ii (Ino)
open Dm (Ent Has)
open Fs (flat View)
theorem QPageRow.inn {w : World} {A : Option Addr} {n : Nat} {ps : List (List UInt8)} (h : QPageRow w A n ps) : PagesIn w A n ps where
  len := h.len
  small := h.small
  size := fun p hp => by
    obtain ⟨i, hi, he⟩ := List.getElem_of_mem hp
    have := h.size i (by rw [← h.len]; exact hi)
    rw [List.getD_eq_getElem?_getD, List.getElem?_eq_getElem hi, he] at this
    exact this
  rows := ⟨fun h0 => by
    rw [List.length_map, h.len] at h0
    obtain ⟨b, off, e, hlt, hc⟩ := h.cells h0
    refine ⟨b, off, e, hlt, fun i r hi => ?_⟩
    rw [List.getElem?_map] at hi
    obtain ⟨p, hp, rfl⟩ := Option.map_eq_some_iff.1 hi
    have hil := (List.getElem?_eq_some_iff.1 hp).1
    have := hc i (by rw [← h.len]; exact hil)
    rw [List.getD_eq_getElem?_getD, hp] at this
    exact this⟩
structure TabAt (w0 w : World) (A1 : Option Addr) (A2 : Option Addr) (c2 : Nat) (ps : List (List UInt8)) (E : List Ent) : Prop where
  pages : PagesIn w A1 ps.length ps
  own : w.ownsRow w0.heap.size 41 2 (.slice A2 E.length c2) E.length (E.flatMap entE)
theorem TabAt.below {w0 w w' : World} {A1 A2 : Option Addr} {c2 : Nat} {ps : List (List UInt8)} {E : List Ent} (h : TabAt w0 w A1 A2 c2 ps E) (hb : Below w.heap.size w w') : TabAt w0 w' A1 A2 c2 ps E :=
  ⟨h.pages.step hb, owns_below h.own hb⟩
theorem owns_ents {w : World} {base : Nat} {A : Option Addr} {c : Nat} {E : List Ent} (h : w.ownsRow base 41 2 (.slice A E.length c) E.length (E.flatMap entE)) :
    (E = [] ∨ ∃ g, A = some ⟨g, 0, none⟩ ∧ base ≤ g ∧ RowAt w g (E.flatMap entE)) := by
  obtain ⟨h1, h2⟩ := h
  rcases h2 with ⟨e, e2⟩ | ⟨g, cap, cur, e, hb, hg, hcap, _, hsz, htk⟩
  · exact Or.inl (List.eq_nil_of_length_eq_zero e2)
  · injection e with e _ _
    refine Or.inr ⟨g, e, hb, ⟨fun j v hv => ?_, fun j hj => ?_⟩⟩
    · rw [← htk] at hv
      have hlt : j < E.length * 2 := by
        have := (List.getElem?_eq_some_iff.1 hv).1
        rw [List.length_take] at this; omega
      rw [List.getElem?_take_of_lt hlt] at hv
      simp only [World.cell?, hg, Nat.zero_add]
      simp only [Option.isSome_none, Bool.false_eq_true, if_false]
      rw [← Array.getElem?_toList]
      exact hv
    · have hl : j < cur.size := by
        have hcl : cur.toList.length = cur.size := Array.length_toList
        rw [← htk, List.length_take, hcl] at hj
        omega
      refine ⟨?_, ?_⟩
      · simp only [World.cell?, hg, Nat.zero_add]
        simp only [Option.isSome_none, Bool.false_eq_true, if_false]
        rw [Array.getElem?_eq_getElem hl]
        rfl
      · simp only [World.frozen?, hg, Nat.zero_add]
        simp
theorem owns_low {w : World} {base base' : Nat} {e : TypeId} {size : Nat} {v : Value} {n : Nat} {xs : List Value} (h : w.ownsRow base e size v n xs) (hb : base' ≤ base) : w.ownsRow base' e size v n xs :=
  ⟨h.1, h.2.imp id fun ⟨g, cap, cur, h1, h2, h3⟩ => ⟨g, cap, cur, h1, Nat.le_trans hb h2, h3⟩⟩
theorem owns_only {w w' : World} {base : Nat} {e : TypeId} {size : Nat} {v : Value} {n : Nat} {xs : List Value} {L : List Nat} (h : w.ownsRow base e size v n xs) (ho : Only L w w') (hL : ∀ k ∈ L, k < base) : w'.ownsRow base e size v n xs :=
  ⟨h.1, h.2.imp id fun ⟨g, cap, cur, h1, h2, h3, h4⟩ => ⟨g, cap, cur, h1, h2, (ho.block g (Array.getElem?_eq_some_iff.1 h3).1 (fun q => by have := hL g q; omega)).trans h3, h4⟩⟩
theorem PagesIn.only {w w' : World} {g o n : Nat} {ps : List (List UInt8)} {L : List Nat} (h : PagesIn w (some ⟨g, o, none⟩) n ps) (ho : Only L w w') (hg : g ∉ L) : PagesIn w' (some ⟨g, o, none⟩) n ps :=
  ⟨h.len, h.small, h.size, ⟨fun h0 => by
    obtain ⟨b, off, e, hlt, hc⟩ := h.rows.cells h0
    injection e with e
    injection e with e1 e2
    subst e1 e2
    exact ⟨_, _, rfl, Nat.lt_of_lt_of_le hlt ho.size, fun i r hi => rangeAt_block (hc i r hi) (ho.block _ hlt hg)⟩⟩⟩
theorem tab_at {w0 w2 w3 : World} {g : Nat} {A2 : Option Addr} {c2 m X : Nat} {ps : List (List UInt8)} {E : List Ent} {us : List Value} (hl : ps.length = m) (hin : PagesIn w3 (some ⟨g, 0, none⟩) m ps) (hb0 : w0.heap.size ≤ w2.heap.size) (hX : X < g) (hX2 : X < w2.heap.size) (hown : w3.ownsRow w2.heap.size 41 2 (.slice A2 E.length c2) E.length (E.flatMap entE)) : TabAt w0 (w3.setCells X 0 us) (some ⟨g, 0, none⟩) A2 c2 ps E := by
  have ho : Only [X] w3 (w3.setCells X 0 us) := (Only.refl [X] w3).setCells X (by simp) us 0 w3
  exact ⟨by rw [hl]; exact hin.only ho (by simp; omega), owns_low (owns_only hown ho (by simpa using hX2)) hb0⟩
theorem TabAt.row {w0 w : World} {A1 A2 : Option Addr} {c2 : Nat} {ps : List (List UInt8)} {E : List Ent} (h : TabAt w0 w A1 A2 c2 ps E) : EntRow w A2 E.length E where
  len := rfl
  cells := fun h0 => by
    rcases owns_ents h.own with rfl | ⟨g, e, _, hr⟩
    · exact absurd h0 (Nat.lt_irrefl _)
    · refine ⟨g, 0, e, World.block_lt_of_cell? w _ (hr.cell 0 _ (List.getElem?_eq_getElem (by rw [flatE_length]; omega))), fun i x hx j v hv => ?_⟩
      have := hr.cell (i * 2 + j) v (flatE_at E i x j v hx hv)
      rw [Nat.zero_add]
      exact this
abbrev tabV (A1 : Option Addr) (n1 c1 : Nat) (A2 : Option Addr) (n2 c2 : Nat) : Value := .agg #[.slice A1 n1 c1, .slice A2 n2 c2]
def tabL (A1 : Option Addr) (n1 c1 : Nat) (A2 : Option Addr) (n2 c2 : Nat) : List Value := [.slice A1 n1 c1, .slice A2 n2 c2]
theorem tabL_one (A1 : Option Addr) (n1 c1 : Nat) (A2 : Option Addr) (n2 c2 : Nat) : ∀ v ∈ tabL A1 n1 c1 A2 n2 c2, v.oneCell' = true := by
  intro v hv
  simp only [tabL, List.mem_cons, List.not_mem_nil, or_false] at hv
  rcases hv with rfl | rfl <;> rfl
theorem tabT : RowT 88 2 := ⟨⟨_, Tryz.underlying88, rfl⟩, by kernel_rfl⟩
theorem tab_box (w : World) (B : Nat) (i : Int) : Lo [] w [(w.heap.size, dirL B i), (w.heap.size + 1, tabL none 0 0 none 0 0)] ((w.alloc (.cells #[.pointer (some ⟨B, 0, none⟩), .int .i64 i] 52)).alloc (.cells #[.slice none 0 0, .slice none 0 0] 88)) :=
  ((Lo.start (L := []) w (by simp)).alloc _ rfl (dirL B i) _).alloc (w.heap.size + 1) (by simp) (tabL none 0 0 none 0 0) _
theorem tab_any {w : World} {B : Nat} {b : Blk} {s : Sto} {n I : Int} {x : Ino} {u : Nat} {P : Nat → List UInt8} {E : List Ent} {H : Has} (h : Ctx w B b s n I) (hd : Dm.Dr n I (nv s) x u P E H) :
    Calls Tryz.prog 48 #[dirV B 1] w fun e w' => ∃ A1 c1 A2 c2, e = .returned (tabV A1 (E.length / 4) c1 A2 E.length c2) ∧ TabAt w w' A1 A2 c2 (pagesE E (flat P 36)) E ∧ Below w.heap.size w w' := by
  have hfew := hd.few
  have h4 := hd.ok.four
  have hFl := hd.rt.fl.flat_length
  have S := Lib.hid (tab_box w B 1)
  have c0 := (S.out.get 0 _ rfl).cell 0 _ rfl
  have c1 := (S.out.get 0 _ rfl).cell 1 _ rfl
  obtain ⟨t, ht⟩ : ∃ t, (flat P 36).take (16 * E.length) = t := ⟨_, rfl⟩
  have htl : t.length = 16 * E.length := by rw [← ht, List.length_take, hFl]; omega
  have HR : Hid (∀ W l, Lo [] w l W → Calls Tryz.prog 89 #[.pointer (some ⟨B, 0, none⟩), .int .i64 1, .int .i64 0, .int .i64 67840] W fun e w' => e = .returned (.string (strOf t)) ∧ Below W.heap.size W w') := Lib.hid (fun W l hl => sread_yes (Lo.ctx (L := []) hl h) 1 0 67840 (by decide) (by rw [← ht]; exact hd.whole))
  have hps : pagesE E (flat P 36) = qchunks (E.length / 4) t := by unfold pagesE; rw [ht]
  have HS : Hid (∀ W, Calls Tryz.prog 88 #[.string (strOf t)] W fun e w' => e = .returned (.slice (some ⟨W.heap.size, 0, none⟩) (E.length / 4) (E.length / 4)) ∧ PagesIn w' (some ⟨W.heap.size, 0, none⟩) (E.length / 4) (pagesE E (flat P 36)) ∧ W.heap.size < w'.heap.size ∧ Below W.heap.size W w') := Lib.hid (fun W => by
    refine (qsplit_any (strOf t) (E.length / 4) W (by rw [strOf_size]; omega) (by rw [strOf_size]; omega)).mono ?_
    rintro e w' ⟨rfl, hr, hz, hb⟩
    refine ⟨rfl, ?_, hz, hb⟩
    have e2 : qpadded (E.length / 4) (strOf t).data.toList = t := by rw [bytes_strOf]; exact padded_full _ _ (by omega)
    rw [hps, ← e2]
    exact hr.inn)
  have hbl := blocks_dir hd.bytes hd.ok
  obtain ⟨ha1, ha2⟩ := allOk_dir hd.ok.st
  have HA : Hid (∀ W A, PagesIn W A (E.length / 4) (pagesE E (flat P 36)) → (0 < E.length / 4 → ∀ b off, A = some ⟨b, off, none⟩ → b < W.heap.size) → Calls Tryz.prog 90 #[.slice A (E.length / 4) (E.length / 4)] W fun e w' => ∃ A2 c2, e = .returned (.tuple #[.slice A2 E.length c2, .int .i64 0]) ∧ w'.ownsRow W.heap.size 41 2 (.slice A2 E.length c2) E.length (E.flatMap entE) ∧ Below W.heap.size W w') := Lib.hid (fun W A hin hf => by
    refine (all_any A (E.length / 4) (E.length / 4) _ W hin hf (by omega)).mono ?_
    intro e w' hg
    unfold AllGive at hg
    rw [hbl, if_pos ha1, ha2, List.length_map] at hg
    exact hg)
  have hpl : (pagesE E (flat P 36)).length = E.length / 4 := pagesE_length _ _
  have HPL := Lib.hid hpl
  clear h hd hps hbl ha1 ha2 hpl htl ht hFl h4
  generalize pagesE E (flat P 36) = ps at HS HA HPL ⊢
  obtain ⟨m, hm⟩ : ∃ m, E.length / 4 = m := ⟨_, rfl⟩
  rw [hm] at HS HA HPL ⊢
  clear hm
  go_enter Tryz.func48, Tryz.ntmps48
  go_wp2_with (first
    | (go_at_call 89; refine (HR.out _ _ S.out).mono ?_; rintro e w1 ⟨rfl, hb⟩; replace S := Lib.hid (S.out.below hb); clear hb)
    | (go_at_call 88; have HXG := Lib.hid (S.out.lt 1 _ rfl); refine (HS.out _).mono ?_; rintro e w2 ⟨rfl, hin, hz, hb⟩; replace S := Lib.hid (S.out.below hb); have HIN := Lib.hid hin; have HBL := Lib.hid hz; clear hb hin hz)
    | (go_at_call 90; refine (HA.out _ _ HIN.out (fun _ b off e => by injection e with e; injection e with e; subst e; exact HBL.out)).mono ?_; rintro e w3 ⟨A2, c2, rfl, hown, hb⟩; have HIN3 := Lib.hid (HIN.out.step hb); have HOW := Lib.hid hown; have HSZ := Lib.hid S.out.bel.size; have HXL := Lib.hid (S.out.lt 1 _ rfl);  replace S := Lib.hid (S.out.below hb); clear hb hown)
    | ((with_reducible refine wpList_store_rw (vs := tabL (some ⟨w1.heap.size, 0, none⟩) m m A2 E.length c2) tabT (S.out.get 1 _ rfl) ?_ ?_ (tabL_one _ _ _ _ _ _) rfl (.tmp 2) (.tmp 25) rfl ?_ ?_ ?_); (exact rfl); (exact rfl); (exact rfl); (exact rfl)))
  have S2 := Lib.hid (S.out.put 1 _ rfl (tabL (some ⟨w1.heap.size, 0, none⟩) m m A2 E.length c2) rfl)
  refine bodyPost_ret (results_row1 tabT _ 2 rfl _ (S2.out.get 1 _ rfl) rfl rfl) rfl ⟨_, _, _, _, rfl, ?_, S2.out.bel⟩
  exact tab_at HPL.out HIN3.out HSZ.out HXG.out HXL.out HOW.out
end
end Go.Proofs.YtmpfcgjjejlhdaaGreat
