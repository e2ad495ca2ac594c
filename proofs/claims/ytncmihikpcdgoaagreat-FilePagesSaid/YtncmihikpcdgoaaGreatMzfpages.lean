/-
  FilePages, proved: the pages of a volume are those of its disk, when all is synced.
-/
import Derived.Test.YtncmihikpcdgoaaGreatMap
namespace Go.Proofs.YtncmihikpcdgoaaGreat.filePages
open Go.ChangeShapes Go.WideShapes Go.ChangeAt Go.RowKit
open Dk (zeros zeros_length)
open Ii (Ino)
theorem own : ownKnob Tryz.prog.godebug = none := by kernel_rfl
theorem laidOut : laidOutB Tryz.prog = true := by kernel_rfl
theorem pl : Pl.rightB 90 6 = true := by decide
theorem read_no {s : Sto} {n I : Int} (v : Vs s n I) {i : Int} (h : i < 0 ∨ n ≤ i ∨ (1 ≤ i ∧ i ≤ 40)) : sreadP s i = zeros ∧ sreadE s i = 22 := by
  have hr : sreachE s i = 22 := by
    unfold sreachE
    rw [if_neg (by rw [v.snd.up]; simp), if_neg]
    unfold otherB
    rw [decide_eq_true_iff, v.a, v.z, v.len]
    omega
  unfold sreadP sreadE
  rw [if_neg (by rw [hr]; decide), if_neg (by rw [hr]; decide), hr]
  exact ⟨rfl, rfl⟩
/-- behind the Sync -/
structure Synced (s : Sto) : Prop where
  vs : Vs s 90 6
  at_ : ∀ i : Nat, Out 90 i → nv s i = s.dk.last.getD i []
theorem synced {s : Sto} {k : Nat} (h : Calm s 90 6 k) (hk : k ≤ 100) : ssyncE s = 0 ∧ Synced (ssync s) := by
  rcases vsync_two h.vs (by have := h.q; omega) with ⟨e1, e2, e3, e4, e5, _⟩ | ⟨_, e2, _⟩
  · refine ⟨e1, e2, fun i _ => ?_⟩
    have hi : Idle (ssync s) := by unfold Idle; rw [e3, e5]; exact h.idle
    rw [idle_nv hi, noPgs_gv e4]
  · rw [h.lim] at e2; cases e2
set_option maxRecDepth 100000 in
set_option maxHeartbeats 4000000 in
theorem walk (A : Option Addr) (n c : Nat) (os : List Fop) (at1 : Int) (w : World) (hrow : FopRow w A n os) (h0 : -9223372036854775808 ≤ at1) (h1 : at1 ≤ 9223372036854775807) : Calls Tryz.prog 6 #[.slice A n c, .int .i64 at1] w fun e w' => e = .returned (.bool true) ∧ Below w.heap.size w w' := by
  have HG := Lib.hid (fun (W : World) (hb : Below w.heap.size w W) => fgreat_any (c := c) (most := 30) (hrow.step hb) (by decide))
  have HR := Lib.hid hrow
  have HLN := Lib.hid hrow.len
  have HF : Hid (∀ W, Calls Tryz.prog 9 #[.int .i64 90, .int .i64 6] W fun e w' => ∃ (V : Nat) (b : Blk) (s : Sto), e = .returned (.tuple #[.pointer (some ⟨V, 0, none⟩), .pointer (some ⟨b.d, 0, none⟩)]) ∧ VolAt w' V b s 90 6 0 ∧ FmtS s 90 6 ∧ Below W.heap.size W w' ∧ W.heap.size ≤ V ∧ ∀ k ∈ b.all, W.heap.size ≤ k) := Lib.hid (fun W => lawFresh_any W 90 6 pl)
  clear hrow
  go_enter Tryz.func6, Tryz.ntmps6
  go_wp2_with fail
  refine (fawake_any _).mono ?_
  rintro e w1 ⟨rfl, hb1⟩
  go_wp2_with fail
  refine (HG.out w1 hb1).mono ?_
  rintro e w2 ⟨g, rfl, hg, hb2⟩
  have hb2' := hb1.trans (hb2.mono hb1.size)
  cases g with
  | true =>
    go_wp2_with fail
    go_ret
    exact ⟨rfl, hb2'⟩
  | false =>
    obtain ⟨hn30', htx⟩ := hg rfl
    have hn30 : n ≤ 30 := by have := HLN.out; omega
    have HTX := Lib.hid htx
    go_wp2_with fail
    refine (HF.out w2).mono ?_
    rintro e w3 ⟨V, b, s, rfl, hv, hs, hb3, hV, hbb⟩
    have hb3' := hb2'.trans (hb3.mono hb2'.size)
    have HV0 := Lib.hid hv
    have HC0 := Lib.hid (hs.calm pl)
    have hsz := hb2'.size
    have HBG : Hid (∀ k ∈ V :: b.all, w.heap.size ≤ k) := Lib.hid (fun k hk => by
      rcases List.mem_cons.1 hk with rfl | hk
      · omega
      · have := hbb k hk; omega)
    have S0 := Lib.hid (Lo.start (L := V :: b.all) w3 (fun k hk => by
      rcases List.mem_cons.1 hk with rfl | hk
      · exact hv.row.lt
      · exact hv.store.lt k hk))
    have HB3 : Hid (∀ W l, Lo (V :: b.all) w3 l W → Below w.heap.size w W) := Lib.hid (fun W l hl => Only.toBelowOld hb3' hl.only (by have := hb3'.size; omega) HBG.out)
    have HRB : Hid (∀ W l, Lo (V :: b.all) w3 l W → FopRow W A n os) := Lib.hid (fun W l hl => HR.out.step (HB3.out W l hl))
    clear hv hs hbb hb1 hb2 hb3 hV hb2' hb3' hsz
    go_wp2_with fail
    go_loopw [26] (fun i wr => ∃ (k : Nat) (s' : Sto), k ≤ n ∧ i = .int .i64 k ∧ Lo (V :: b.all) w3 [] wr ∧ Hid (VolAt wr V b s' 90 6 0) ∧ Hid (Calm s' 90 6 k)) (fun i _ => n - (intOf i).toNat)
    case atStart => exact ⟨0, s, Nat.zero_le _, rfl, S0.out, HV0, HC0⟩
    case round =>
      clear S0 HV0 HC0
      obtain ⟨k, s', hk, rfl, hS, HV, HC⟩ := hrel
      have S := Lib.hid hS
      clear hS
      by_cases hlt : k < n
      · obtain ⟨o, ho⟩ : ∃ o, os[k]? = some o := ⟨_, List.getElem?_eq_getElem (by rw [HLN.out]; exact hlt)⟩
        have HR2 := Lib.hid (HRB.out _ _ S.out)
        obtain ⟨pb, poff, rfl, hpb, hpr⟩ := HR2.out.cells (by omega)
        have HPI := Lib.hid (hpr k o ho)
        have HT := Lib.hid (HTX.out o (List.mem_of_getElem? ho))
        clear hpr hpb ho
        have HDO : Hid (∀ W l, Lo (V :: b.all) w3 l W → VolAt W V b s' 90 6 0 → Calls Tryz.prog 10 #[.pointer (some ⟨V, 0, none⟩), .agg (opL o).toArray] W fun e w' => ∃ er s2 a, StepTo 90 6 s' (Fs.opM 90 6 o) er s2 a ∧ e = .returned (.tuple #[.int .i64 (a.getD 0), .int .i64 er]) ∧ VolAt w' V b s2 90 6 0 ∧ Only (V :: b.all) W w') := Lib.hid (fun W l hl hv => lawDo_any hv HC.out.vs (by have := HC.out.q; omega) o (by have := HT.out; omega))
        by_cases hq : o.k < 5
        · go_wp2_with (first
            | (with_reducible refine wpList_load_mid rfl 33 (.tmp 28) rfl pb (poff + k * 16) rfl (opL o) _ HPI.out Tryz.underlying33 rfl (by kernel_rfl) ?_)
            | ((with_reducible refine wpList_store_newrow (vs := opL o) opT ?_ (opL_one _) rfl (.tmp 8) (.tmp 29) rfl rfl ?_ ?_ ?_); (exact rfl); (exact rfl); (exact rfl); intro W4 hP hB2 hz2; have S2 := Lib.hid (S.out.made hP hB2 hz2); have HV2 := Lib.hid (HV.out.below hB2); clear hP hB2 hz2; have c4 := (S2.out.get 0 _ rfl).cell 0 _ rfl)
            | (with_reducible refine wpList_load_rw opT (S2.out.get 0 _ rfl) rfl rfl (.tmp 8) rfl rfl ?_)
            | (go_at_call 10; (with_reducible refine (HDO.out _ _ S2.out HV2.out).mono ?_); rintro e w5 ⟨er, s2, a, hto, rfl, hv5, ho5⟩; have S5 := Lib.hid (S2.out.call ho5 (fun i hi => hi)); have HV5 := Lib.hid hv5; have HC5 := Lib.hid (HC.out.step (by omega) hto).1; clear ho5 hv5 hto))
          go_roundw
          case rel => exact ⟨k + 1, s2, by omega, by go_num, S5.out.cut 0, HV5, HC5⟩
          case measure => simp [intOf]; omega
        · go_wp2_with (first
            | (with_reducible refine wpList_load_mid rfl 33 (.tmp 28) rfl pb (poff + k * 16) rfl (opL o) _ HPI.out Tryz.underlying33 rfl (by kernel_rfl) ?_)
            | ((with_reducible refine wpList_store_newrow (vs := opL o) opT ?_ (opL_one _) rfl (.tmp 8) (.tmp 29) rfl rfl ?_ ?_ ?_); (exact rfl); (exact rfl); (exact rfl); intro W4 hP hB2 hz2; have S2 := Lib.hid (S.out.made hP hB2 hz2); have HV2 := Lib.hid (HV.out.below hB2); clear hP hB2 hz2; have c4 := (S2.out.get 0 _ rfl).cell 0 _ rfl))
          go_roundw
          case rel => exact ⟨k + 1, s', by omega, by go_num, S2.out.cut 0, HV2, Lib.hid ⟨HC.out.vs, HC.out.idle, by have := HC.out.q; omega, HC.out.lim⟩⟩
          case measure => simp [intOf]; omega
      · obtain rfl : k = n := by omega
        obtain ⟨y1, y2⟩ := synced HC.out (by omega)
        have HSY : Hid (Calls Tryz.prog 22 #[.pointer (some ⟨V, 0, none⟩)] wr fun e w' => e = .returned (.int .i64 0) ∧ VolAt w' V b (ssync s') 90 6 0 ∧ Only (V :: b.all) wr w') := Lib.hid (by
          have := vsync_any HV.out HC.out.vs.snd.up HC.out.vs.snd.q0 (by have := HC.out.q; omega)
          rw [y1] at this
          exact this.mono fun e w' hh => ⟨hh.1, hh.2.1, hh.2.2.mono (fun i hi => List.mem_cons_of_mem _ (by simp only [syncL, Blk.all, List.mem_cons, List.not_mem_nil, or_false] at hi ⊢; rcases hi with h | h | h | h | h <;> simp [h]))⟩)
        have HY := Lib.hid y2
        clear y1 y2
        generalize ssync s' = z at HSY HY
        go_wp2_with (go_at_call 22; (with_reducible refine HSY.out.mono ?_); rintro e w5 ⟨rfl, hv5, ho5⟩; have S5 := Lib.hid (S.out.call ho5 (fun i hi => hi)); have HV5 := Lib.hid hv5; clear ho5 hv5 S HV)
        have HZL : Hid (zeros.length = 64) := Lib.hid zeros_length
        have HRN := Lib.hid (fun i h => read_no HY.out.vs (i := i) h)
        have HPG : Hid (∀ (W : World) (i : Int), VolAt W V b z 90 6 0 → Calls Tryz.prog 33 #[.pointer (some ⟨V, 0, none⟩), .int .i64 i] W fun e w' => e = .returned (.tuple #[pageV (sreadP z i), .int .i64 (sreadE z i)]) ∧ Below W.heap.size W w') := Lib.hid (fun W i hv => vpage_any hv HY.out.vs i)
        have HLS : Hid (∀ (W : World) (i : Nat), VolAt W V b z 90 6 0 → Out 90 i → Calls Tryz.prog 34 #[.pointer (some ⟨b.d, 0, none⟩), .int .i64 (i : Int)] W fun e w' => e = .returned (pageV (nv z i)) ∧ Below W.heap.size W w') := Lib.hid (fun W i hv ho => by
          have := lasts_any hv.store.disk (i : Int)
          have e : Dk.lastsP z.dk (i : Int) = nv z i := by
            rw [HY.out.at_ i ho]
            unfold Dk.lastsP
            rw [if_pos (Dk.has_mk (by have := HY.out.vs.len; have := ho.1; omega)), Int.toNat_natCast]; rfl
          rw [e] at this
          exact this)
        have HNV := Lib.hid (fun (i : Nat) (ho : Out 90 i) => HY.out.vs.read (i := (i : Int)) ⟨by omega, ho.1, by have := ho.2; omega⟩)
        go_wp2_with fail
        go_loopw [9] (fun i wr => ∃ (k : Nat), k ≤ 90 ∧ i = .int .i64 k ∧ Lo (V :: b.all) w3 [] wr ∧ Hid (VolAt wr V b z 90 6 0)) (fun i _ => 90 - (intOf i).toNat)
        case atStart => exact ⟨0, by omega, rfl, S5.out.cut 0, HV5⟩
        case round =>
          clear S5 HV5
          obtain ⟨k, hk, rfl, hS, HV⟩ := hrel
          have S := Lib.hid hS
          clear hS
          by_cases hlt : k < 90
          · by_cases hin : 1 ≤ k ∧ k ≤ 40
            · obtain ⟨r1, r2⟩ := HRN.out (k : Int) (by omega)
              have HP := Lib.hid (fun (W : World) (hv : VolAt W V b z 90 6 0) => HPG.out W (k : Int) hv)
              rw [r1, r2] at HP
              have E1 : ∀ W : World, (binOp .neq 68 (pageV zeros) (.agg zeroCells)).run Tryz.prog W = .ok (.bool false) W := fun W => run_neq_same W zeros zeros_length
              have E0 : ∀ (W : World) (x y : Operand), (eqGuard .neq 68 x y (pageV zeros) (.agg zeroCells)).run Tryz.prog W = .ok () W := fun W x y => run_neGuard_page W x y zeros zeros
              rw [zeroCells_def] at E1 E0
              obtain ⟨zp, hzp⟩ : ∃ zp, zp = zeros := ⟨_, rfl⟩
              rw [← hzp] at HP HZL E1 E0
              clear r1 r2 hzp
              go_wp2_with (first
                | (go_at_call 33; (with_reducible refine (HP.out _ HV.out).mono ?_); rintro e w6 ⟨rfl, hb⟩; replace S := Lib.hid (S.out.below hb); replace HV := Lib.hid (HV.out.below hb); clear hb)
                | ((with_reducible refine wpList_store_new rfl (.tmp 10) (.tmp 48) rfl rfl ?_ ?_ HZL.out ?_); (exact rfl); (exact rfl); intro W2 hP hB2 hz2; replace S := Lib.hid (S.out.below hB2); replace HV := Lib.hid (HV.out.below hB2); have PG := Lib.hid hP; clear hP hB2 hz2)
                | (with_reducible refine wpList_load_guarded PG.out (.tmp 10) rfl rfl (by kernel_rfl) ?_))
              exact ⟨⟨k + 1, by omega, by go_num, S.out, HV⟩, by simp [intOf]; omega⟩
            · have hout : Out 90 k := ⟨by omega, by omega⟩
              obtain ⟨r1, r2, r3⟩ := HNV.out k hout
              have HP := Lib.hid (fun (W : World) (hv : VolAt W V b z 90 6 0) => HPG.out W (k : Int) hv)
              have HLK := Lib.hid (fun (W : World) (hv : VolAt W V b z 90 6 0) => HLS.out W k hv hout)
              rw [r1, r2] at HP
              rw [Int.toNat_natCast] at HP r3
              have HL := Lib.hid r3
              have hin2 : ¬ ((1 : Int) ≤ (k : Int) ∧ (k : Int) ≤ 40) := by omega
              have hin3 : ((1 : Int) ≤ (k : Int) ∧ ¬ (k : Int) ≤ 40) ∨ ¬ ((1 : Int) ≤ (k : Int)) := by omega
              clear r1 r2 r3
              generalize nv z k = p at HP HLK HL
              have E1 : ∀ W : World, (binOp .neq 68 (pageV p) (pageV p)).run Tryz.prog W = .ok (.bool false) W := fun W => run_neq_same W p HL.out
              have E0 : ∀ (W : World) (x y : Operand), (eqGuard .neq 68 x y (pageV p) (pageV p)).run Tryz.prog W = .ok () W := fun W x y => run_neGuard_page W x y p p
              rcases hin3 with ⟨g1, g2⟩ | g1
              all_goals
                go_wp2_with (first
                  | (go_at_call 33; (with_reducible refine (HP.out _ HV.out).mono ?_); rintro e w6 ⟨rfl, hb⟩; replace S := Lib.hid (S.out.below hb); replace HV := Lib.hid (HV.out.below hb); clear hb)
                  | ((with_reducible refine wpList_store_new rfl (.tmp 10) (.tmp 48) rfl rfl ?_ ?_ HL.out ?_); (exact rfl); (exact rfl); intro W2 hP hB2 hz2; have S2 := Lib.hid (S.out.made hP.rowAt hB2 hz2); replace HV := Lib.hid (HV.out.below hB2); clear hP hB2 hz2))
                generalize w6.heap.size = P at S2 ⊢
                refine wp_region_linp (fun (_ : Unit) W => Lo (V :: b.all) w3 ([] ++ [(P, byteVals p)]) W ∧ VolAt W V b z 90 6 0) (fun _ _ => False) (fun _ => false) (fun i => [.int .i64 0, .bool false, .bool false, pageV p, .pointer (some ⟨b.d, 0, none⟩), .int .i64 (k : Int), pageV p, .bool false, .bool false].getD i undef) () (by kernel_rfl) (by kernel_rfl) (fun _ _ _ _ h => h.elim) ⟨S2.out.drew, HV.out.below ((Below.refl _ _).drew)⟩ ?_
                refine linp_step (i := 0) (d := some 63) (v := (.int .i64 0)) rfl rfl (by kernel_rfl) (by kernel_rfl) rfl rfl (ord_value (by kernel_rfl) ?_) ?_
                · ((intro _ _ _; go_simp) <;> kernel_rfl)
                try simp only [Act.put, List.setIfInBounds_toArray, List.set_cons_zero, List.set_cons_succ]
                refine linp_step (i := 1) (d := some 64) (v := (.bool false)) rfl rfl (by kernel_rfl) (by kernel_rfl) rfl rfl (ord_value (by kernel_rfl) ?_) ?_
                · ((intro _ _ _; go_simp) <;> kernel_rfl)
                try simp only [Act.put, List.setIfInBounds_toArray, List.set_cons_zero, List.set_cons_succ]
                refine linp_step (i := 2) (d := some 65) (v := (.bool false)) rfl rfl (by kernel_rfl) (by kernel_rfl) rfl rfl (ord_value (by kernel_rfl) ?_) ?_
                · ((intro _ _ _; go_simp) <;> kernel_rfl)
                try simp only [Act.put, List.setIfInBounds_toArray, List.set_cons_zero, List.set_cons_succ]
                refine linp_step (i := 3) (d := some 66) (v := (pageV p)) rfl rfl (by kernel_rfl) (by kernel_rfl) rfl rfl (ord_page (by kernel_rfl) (.tmp 10) rfl rfl (fun _ W hS => hS.1.page 0 rfl HL.out)) ?_
                try simp only [Act.put, List.setIfInBounds_toArray, List.set_cons_zero, List.set_cons_succ]
                refine linp_step (i := 4) (d := some 67) (v := (.pointer (some ⟨b.d, 0, none⟩))) rfl rfl (by kernel_rfl) (by kernel_rfl) rfl rfl (ord_value (by kernel_rfl) ?_) ?_
                · ((intro _ _ _; go_simp) <;> kernel_rfl)
                try simp only [Act.put, List.setIfInBounds_toArray, List.set_cons_zero, List.set_cons_succ]
                refine linp_step (i := 5) (d := some 68) (v := (.int .i64 (k : Int))) rfl rfl (by kernel_rfl) (by kernel_rfl) rfl rfl (ord_value (by kernel_rfl) ?_) ?_
                · ((intro _ _ _; go_simp) <;> kernel_rfl)
                try simp only [Act.put, List.setIfInBounds_toArray, List.set_cons_zero, List.set_cons_succ]
                refine linp_step (i := 6) (d := some 69) (v := (pageV p)) rfl rfl (by kernel_rfl) (by kernel_rfl) rfl rfl (ord_call (f := 34) (args := #[.pointer (some ⟨b.d, 0, none⟩), .int .i64 (k : Int)]) (by kernel_rfl) ?_ (fun _ W hS => (HLK.out W hS.2).mono fun e w' hh => ⟨hh.1, hS.1.below hh.2, hS.2.below hh.2⟩)) ?_
                · (intro _; go_simp)
                try simp only [Act.put, List.setIfInBounds_toArray, List.set_cons_zero, List.set_cons_succ]
                refine linp_step (i := 7) (d := some 70) (v := .bool false) rfl rfl (by kernel_rfl) (by kernel_rfl) rfl rfl (ord_value (by kernel_rfl) ?_) ?_
                · intro _ _ _
                  go_simp
                try simp only [Act.put, List.setIfInBounds_toArray, List.set_cons_zero, List.set_cons_succ]
                refine linp_step (i := 8) (d := some 71) (v := (.bool false)) rfl rfl (by kernel_rfl) (by kernel_rfl) rfl rfl (ord_value (by kernel_rfl) ?_) ?_
                · ((intro _ _ _; go_simp) <;> kernel_rfl)
                try simp only [Act.put, List.setIfInBounds_toArray, List.set_cons_zero, List.set_cons_succ]
                refine linp_done (by kernel_rfl) fun W hS => ?_
                obtain ⟨S9, V9⟩ := hS
                clear S S2 HV
                go_wp2_with fail
                exact ⟨⟨k + 1, by omega, by go_num, S9.cut 0, Lib.hid V9⟩, by simp [intOf]; omega⟩
          · obtain rfl : k = 90 := by omega
            have HP := Lib.hid (fun (W : World) (hv : VolAt W V b z 90 6 0) => HPG.out W at1 hv)
            have HL : Hid ((sreadP z at1).length = 64) := Lib.hid (sread_len HY.out.vs.snd.ok HY.out.vs.snd.cl.ok at1)
            by_cases hat : 0 ≤ at1 ∧ at1 < 90
            · obtain ⟨g1, g2⟩ := hat
              generalize sreadP z at1 = p at HP HL
              generalize sreadE z at1 = er at HP
              go_wp2_with (first
                | (go_at_call 33; (with_reducible refine (HP.out _ HV.out).mono ?_); rintro e w6 ⟨rfl, hb⟩; replace S := Lib.hid (S.out.below hb); clear hb)
                | ((with_reducible refine wpList_store_new rfl (.tmp 12) (.tmp 76) rfl rfl ?_ ?_ HL.out ?_); (exact rfl); (exact rfl); intro W2 hP hB2 hz2; replace S := Lib.hid (S.out.below hB2); clear hP hB2 hz2))
              go_ret
              exact ⟨rfl, HB3.out _ _ S.out⟩
            · obtain ⟨r1, r2⟩ := HRN.out at1 (by omega)
              rw [r1, r2] at HP
              have E1 : ∀ W : World, (binOp .eql 68 (pageV zeros) (.agg zeroCells)).run Tryz.prog W = .ok (.bool true) W := fun W => (run_eql_page W zeros zeros zeros_length zeros_length).trans (by rw [decide_eq_true rfl])
              have E0 : ∀ (W : World) (x y : Operand), (eqGuard .eql 68 x y (pageV zeros) (.agg zeroCells)).run Tryz.prog W = .ok () W := fun W x y => run_eqGuard_page W x y zeros zeros
              rw [zeroCells_def] at E1 E0
              have hin3 : (decide (0 ≤ at1) = true ∧ decide (at1 < 90) = false) ∨ decide (0 ≤ at1) = false := by
                by_cases q : 0 ≤ at1
                · left; exact ⟨decide_eq_true q, decide_eq_false (by omega)⟩
                · right; exact decide_eq_false q
              clear hat r1 r2 HL
              obtain ⟨zp, hzp⟩ : ∃ zp, zp = zeros := ⟨_, rfl⟩
              rw [← hzp] at HP HZL E1 E0
              clear hzp
              rcases hin3 with ⟨g1, g2⟩ | g1
              all_goals
                go_wp2_with (first
                  | (go_at_call 33; (with_reducible refine (HP.out _ HV.out).mono ?_); rintro e w6 ⟨rfl, hb⟩; replace S := Lib.hid (S.out.below hb); clear hb)
                  | ((with_reducible refine wpList_store_new rfl (.tmp 12) (.tmp 76) rfl rfl ?_ ?_ HZL.out ?_); (exact rfl); (exact rfl); intro W2 hP hB2 hz2; replace S := Lib.hid (S.out.below hB2); have PG := Lib.hid hP; clear hP hB2 hz2)
                  | (with_reducible refine wpList_load_guarded PG.out (.tmp 12) rfl rfl (by kernel_rfl) ?_))
                go_ret
                exact ⟨rfl, HB3.out _ _ S.out⟩
set_option maxRecDepth 100000 in
theorem lifted (os : Os) (started : os.Started) (H : Type) (enc : TypeId × Value → H) :
    ReturnsInHanded {} Tryz.checked os 6 .any (Rows.filePagesSpec.pre6 enc Tryz.prog Tryz.f6 Rows.filePagesRow.domain false) (Rows.filePagesSpec.post enc Tryz.prog Tryz.f6 false true false false) := by
  refine returnsInHanded_of_change (C := Tryz.checked) own started (by kernel_rfl) Tryz.func6
    (ChangeSpec.witness6 (enc := enc) (C := Tryz.checked) false ⟨#[], #[.slice none 0 0, .int .i64 0], []⟩ 8 (by kernel_rfl) (by kernel_rfl) (by kernel_rfl) (by kernel_rfl)) ?_
  intro W base args ds gs before hval0 hW hcnd _
  have hval : ∀ (j : Nat) t v, Tryz.f6.params[j]? = some t → args[j]? = some v → Value.okWide Tryz.prog W .any base t v := hval0
  have hW' := hW
  obtain ⟨p, q, hA0, hV, rfl, hfz, hnd⟩ := hW
  have hA : DataW.TrodAll enc Tryz.prog W 0 (fun _ => true) true Tryz.f6.params.toList args.toList ds p := hA0
  rw [Tryz.params6] at hA hval
  obtain ⟨v0, vs0, d0, ds0, p0, q0, hargs, rfl, rfl, h0, r0⟩ := trodAll_cons hA
  obtain ⟨v1, vs1, d1, ds1, p1, q1, rfl, rfl, rfl, h1, r1⟩ := trodAll_cons r0
  obtain ⟨rfl, rfl, rfl⟩ := trodAll_nil r1
  obtain rfl : args = #[v0, v1] := by cases args; simp_all
  obtain ⟨rfl, rfl⟩ := trodVars_none hV
  have k0 := h0
  have lt0 : ∀ x ∈ p0, x.block < W.heap.size := by obtain ⟨m, hm⟩ := k0; exact DataW.trod_lt m _ _ _ hm
  have k1 := h1
  have lt1 : ∀ x ∈ p1, x.block < W.heap.size := by obtain ⟨m, hm⟩ := k1; exact DataW.trod_lt m _ _ _ hm
  obtain ⟨A0, n0, c0, os0, rfl, w0⟩ := open_fops (hval 0 22 v0 rfl rfl) h0
  obtain ⟨x1, rfl, ed1, ep1, w1⟩ := open_int Tryz.underlying3 (hval 1 3 v1 rfl rfl) h1
  clear hA0 hval0
  refine (walk A0 n0 c0 os0 x1 W w0 (bounds_i64 w1).1 (bounds_i64 w1).2).mono fun e W' ⟨he, bel⟩ => ?_
  subst he
  exact ⟨_, rfl, _, _, _, [], _, [], hW', trodAll_mk1 (shut_bool Tryz.underlying4 _), (trodAll_cons_mk (Below.trod laidOut (by kernel_rfl) (of_decide_eq_true (by kernel_rfl)) k0 bel lt0) (trodAll_cons_mk (Below.trod laidOut (by kernel_rfl) (of_decide_eq_true (by kernel_rfl)) k1 bel lt1) trodAll_mk0)), rfl, bel.frame _, fun h => by cases h⟩
theorem over : Rows.filePagesRow.holds Tryz.pinned (OpenSpec.ofChange Rows.filePagesSpec) :=
  OpenClaim.holds_of_wide 6 Tryz.f6 rfl rfl rfl rfl rfl rfl rfl ⟨rfl, rfl, rfl, rfl, rfl⟩ rfl rfl rfl rfl rfl (by kernel_rfl) Tryz.func6 (by kernel_rfl)
    (of_decide_eq_true (by kernel_rfl)) (by unfold Func.isWrapper; first | (rw [if_pos (by decide +kernel)]; kernel_rfl) | (rw [if_neg (by decide +kernel)]; exact ⟨rfl, rfl⟩))
    (fun os started H enc _ => lifted os started H enc)
/-- THE STATEMENT -/
theorem proved : Rows.FilePagesSaid := over
#print axioms proved
end Go.Proofs.YtncmihikpcdgoaaGreat.filePages
