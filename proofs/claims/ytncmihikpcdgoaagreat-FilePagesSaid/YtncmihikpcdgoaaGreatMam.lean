/- Texts of the proof: Fcutm, Fcutf, Fblank, Fnew, Ftrunc, Fwr0. -/
import Derived.Test.YtncmihikpcdgoaaGreatMal
import Derived.Lib.SliceRun
import Derived.Test.YtncmihikpcdgoaaGreatMah
import Derived.WalkSpells
namespace Go.Proofs.YtncmihikpcdgoaaGreat
open Go.RowKit Go.Maps
open Dk (zeros zeros_length)
open Ii (Ino)
set_option maxRecDepth 100000 in
set_option maxHeartbeats 4000000 in
theorem scut_1 {w : World} {B : Nat} {b : Blk} {s : Sto} {n I : Int} (h : Ctx w B b s n I) (m frm : Int) (h1 : -2000000 ≤ frm) (h2 : frm ≤ 1000000) : Calls Tryz.prog 92 #[.pointer (some ⟨B, 0, none⟩), .int .i64 m, .int .i64 32, .int .i64 frm] w (Ends B b n I [] w s (Fs.cutM n I 1 m frm) fun y e _ => e = .returned (.int .i64 y)) := by
  refine calls_of fun R H => ?_
  have S := Lib.hid (Stp.start h (by simp) H)
  have HOK := Lib.hid (bits_ok h.vs).1
  have HDB : Hid (∀ w, Calls Tryz.prog 66 #[.agg (planL n I).toArray] w fun e w' => e = .returned (.int .i64 42) ∧ Below w.heap.size w w') := Lib.hid (fun w => by
    have := plDataBits_any n I w
    rw [if_pos h.vs.pl] at this
    exact this)
  have HCN : Hid (∀ W, Ctx W B b s n I → okP n m → Calls Tryz.prog 130 #[.pointer (some ⟨B, 0, none⟩), .int .i64 m, .int .i64 1, .int .i64 frm] W (Ends B b n I [] W s (Fs.cutNums (Fs.cutM n I 0) ((32 : Int) ^ 0) m frm) fun left e _ => e = .returned (.bool left))) := Lib.hid (fun W hc hm => scutNums_step (Fs.cutM n I 0) 1 (by decide) 2000000 (by decide) (fun W s' m frm hc _ _ => scut_0 hc m frm) hc m frm hm ⟨h1, h2⟩)
  unfold Fs.cutM at S
  by_cases c1 : (32 : Int) ^ (0 + 1) ≤ frm
  · rw [if_pos c1] at S
    have c0 : (32 : Int) ≤ frm := c1
    clear h H HCN c1
    go_enter Tryz.func92, Tryz.ntmps92
    go_wp2_with fail
    exact S.out.done rfl
  · rw [if_neg c1] at S
    have c0 : ¬ (32 : Int) ≤ frm := c1
    clear c1
    by_cases c2 : Fs.isData n I m
    · rw [if_pos c2] at S
      have HBI : Hid (∀ w, Calls Tryz.prog 129 #[.agg (planL n I).toArray, .int .i64 m] w fun e w' => e = .returned (.int .i64 (m - Pl.dataN I)) ∧ Below w.heap.size w w') := Lib.hid (fun w => bit_yes n I m w h.vs.pl c2.1 c2.2)
      have g2 : decide (m - Pl.dataN I < 0) = false := decide_eq_false (by have := c2.1; omega)
      have HMO := Lib.hid (data_ok h.vs c2).1
      clear h H c2
      go_enter Tryz.func92, Tryz.ntmps92
      go_wp2_with (first
        | (with_reducible refine wpList_load_plan (S.out.row).plan rfl (.tmp 16) rfl rfl ?_)
        | (go_at_call 129; refine (HBI.out _).mono ?_; rintro e w1 ⟨rfl, hb⟩; replace S := Lib.hid (S.out.below hb); clear hb))
      refine (HCN.out _ S.out.ctx HMO.out).mono ?_
      intro e w8 hE
      rcases S.out.bind hE with ⟨rfl, hR⟩ | ⟨left, s, L6, _, rfl, S2⟩
      · exact ⟨rfl, hR⟩
      clear S hE
      have S := Lib.hid S2
      clear S2
      cases left with
      | true =>
        rw [if_pos rfl] at S
        go_wp2_with fail
        exact S.out.done rfl
      | false =>
        rw [if_neg (by decide)] at S
        go_wp2_with fail
        refine wp_region_linp (MarkS R B b n I w (fun (y : Int) e _ => e = .returned (.int .i64 y)) s (Fs.markM 42 (m - Pl.dataN I) false) (fun _ => Fs.ret (0 : Int))) (fun ch W => ch = [failE B] ∧ R (.panicked [failE B]) W) (fun i => i == 14) (fun i => [.pointer (some ⟨B, 0, none⟩), .pointer (some ⟨B, 0, none⟩), .pointer (some ⟨B, 0, none⟩), .pointer (some ⟨B, 0, none⟩), .pointer (some ⟨B, 1, none⟩), .agg (planL n I).toArray, .int .i64 42, .pointer (some ⟨B, 0, none⟩), .pointer (some ⟨B, 0, none⟩), .pointer (some ⟨B, 0, none⟩), .pointer (some ⟨B, 1, none⟩), .agg (planL n I).toArray, .int .i64 m, .int .i64 (m - Pl.dataN I)].getD i undef) false (by kernel_rfl) (by kernel_rfl) (fun ch a' W hd hh => ?_) S.out.drew ?_
        · exact ⟨hd, by obtain ⟨rfl, hR⟩ := hh; exact hR⟩
        refine linp_step (i := 0) (d := some 35) (v := (.pointer (some ⟨B, 0, none⟩))) rfl rfl (by kernel_rfl) (by kernel_rfl) rfl rfl (ord_value (by kernel_rfl) ?_) ?_
        · ((intro _ _ _; go_simp) <;> kernel_rfl)
        try simp only [Act.put, List.setIfInBounds_toArray, List.set_cons_zero, List.set_cons_succ]
        refine linp_step (i := 1) (d := some 36) (v := (.pointer (some ⟨B, 0, none⟩))) rfl rfl (by kernel_rfl) (by kernel_rfl) rfl rfl (ord_value (by kernel_rfl) ?_) ?_
        · ((intro _ _ _; go_simp) <;> kernel_rfl)
        try simp only [Act.put, List.setIfInBounds_toArray, List.set_cons_zero, List.set_cons_succ]
        refine linp_step (i := 2) (d := some 37) (v := (.pointer (some ⟨B, 0, none⟩))) rfl rfl (by kernel_rfl) (by kernel_rfl) rfl rfl (ord_value (by kernel_rfl) ?_) ?_
        · ((intro _ _ _; go_simp) <;> kernel_rfl)
        try simp only [Act.put, List.setIfInBounds_toArray, List.set_cons_zero, List.set_cons_succ]
        refine linp_step (i := 3) (d := some 38) (v := (.pointer (some ⟨B, 0, none⟩))) rfl rfl (by kernel_rfl) (by kernel_rfl) rfl rfl (ord_value (by kernel_rfl) ?_) ?_
        · ((intro _ _ _; go_simp) <;> kernel_rfl)
        try simp only [Act.put, List.setIfInBounds_toArray, List.set_cons_zero, List.set_cons_succ]
        refine linp_step (i := 4) (d := some 39) (v := (.pointer (some ⟨B, 1, none⟩))) rfl rfl (by kernel_rfl) (by kernel_rfl) rfl rfl (ord_value (by kernel_rfl) ?_) ?_
        · ((intro _ _ _; go_simp) <;> kernel_rfl)
        try simp only [Act.put, List.setIfInBounds_toArray, List.set_cons_zero, List.set_cons_succ]
        refine linp_step (i := 5) (d := some 40) (v := (.agg (planL n I).toArray)) rfl rfl (by kernel_rfl) (by kernel_rfl) rfl rfl (ord_mid loads_plan (by kernel_rfl) (.tmp 39) rfl rfl (fun _ W hS => MarkS.row hS)) ?_
        try simp only [Act.put, List.setIfInBounds_toArray, List.set_cons_zero, List.set_cons_succ]
        refine linp_step (i := 6) (d := some 41) (v := (.int .i64 42)) rfl rfl (by kernel_rfl) (by kernel_rfl) rfl rfl (ord_call (f := 66) (args := #[.agg (planL n I).toArray]) (by kernel_rfl) ?_ (fun _ W hS => (HDB.out W).mono fun e w' hh => ⟨hh.1, MarkS.below hS hh.2⟩)) ?_
        · (intro _; go_simp)
        try simp only [Act.put, List.setIfInBounds_toArray, List.set_cons_zero, List.set_cons_succ]
        refine linp_step (i := 7) (d := some 42) (v := (.pointer (some ⟨B, 0, none⟩))) rfl rfl (by kernel_rfl) (by kernel_rfl) rfl rfl (ord_value (by kernel_rfl) ?_) ?_
        · ((intro _ _ _; go_simp) <;> kernel_rfl)
        try simp only [Act.put, List.setIfInBounds_toArray, List.set_cons_zero, List.set_cons_succ]
        refine linp_step (i := 8) (d := some 43) (v := (.pointer (some ⟨B, 0, none⟩))) rfl rfl (by kernel_rfl) (by kernel_rfl) rfl rfl (ord_value (by kernel_rfl) ?_) ?_
        · ((intro _ _ _; go_simp) <;> kernel_rfl)
        try simp only [Act.put, List.setIfInBounds_toArray, List.set_cons_zero, List.set_cons_succ]
        refine linp_step (i := 9) (d := some 44) (v := (.pointer (some ⟨B, 0, none⟩))) rfl rfl (by kernel_rfl) (by kernel_rfl) rfl rfl (ord_value (by kernel_rfl) ?_) ?_
        · ((intro _ _ _; go_simp) <;> kernel_rfl)
        try simp only [Act.put, List.setIfInBounds_toArray, List.set_cons_zero, List.set_cons_succ]
        refine linp_step (i := 10) (d := some 45) (v := (.pointer (some ⟨B, 1, none⟩))) rfl rfl (by kernel_rfl) (by kernel_rfl) rfl rfl (ord_value (by kernel_rfl) ?_) ?_
        · ((intro _ _ _; go_simp) <;> kernel_rfl)
        try simp only [Act.put, List.setIfInBounds_toArray, List.set_cons_zero, List.set_cons_succ]
        refine linp_step (i := 11) (d := some 46) (v := (.agg (planL n I).toArray)) rfl rfl (by kernel_rfl) (by kernel_rfl) rfl rfl (ord_mid loads_plan (by kernel_rfl) (.tmp 45) rfl rfl (fun _ W hS => MarkS.row hS)) ?_
        try simp only [Act.put, List.setIfInBounds_toArray, List.set_cons_zero, List.set_cons_succ]
        refine linp_step (i := 12) (d := some 47) (v := (.int .i64 m)) rfl rfl (by kernel_rfl) (by kernel_rfl) rfl rfl (ord_value (by kernel_rfl) ?_) ?_
        · ((intro _ _ _; go_simp) <;> kernel_rfl)
        try simp only [Act.put, List.setIfInBounds_toArray, List.set_cons_zero, List.set_cons_succ]
        refine linp_step (i := 13) (d := some 48) (v := (.int .i64 (m - Pl.dataN I))) rfl rfl (by kernel_rfl) (by kernel_rfl) rfl rfl (ord_call (f := 129) (args := #[.agg (planL n I).toArray, .int .i64 m]) (by kernel_rfl) ?_ (fun _ W hS => (HBI.out W).mono fun e w' hh => ⟨hh.1, MarkS.below hS hh.2⟩)) ?_
        · (intro _; go_simp)
        try simp only [Act.put, List.setIfInBounds_toArray, List.set_cons_zero, List.set_cons_succ]
        refine linp_turn (i := 14) (d := some 49) (fun u k => u = .tuple #[] ∧ k = true) rfl rfl (by kernel_rfl) (by kernel_rfl) rfl (by kernel_rfl) ⟨_, _, rfl, rfl⟩ (by kernel_rfl) (gives_all (f := 46) (args := #[.pointer (some ⟨B, 0, none⟩), .int .i64 42, .int .i64 (m - Pl.dataN I), .bool false]) ?_ (fun W hS => (smark_step (Stp.ctx hS) 42 (m - Pl.dataN I) false HOK.out).mono fun e w' hE => by
          rcases Stp.bind hS hE with ⟨rfl, hR⟩ | ⟨_, s', L', _, rfl, S2⟩
          · exact Or.inr ⟨_, rfl, rfl, hR⟩
          · exact Or.inl ⟨_, rfl, true, ⟨rfl, rfl⟩, s', S2⟩)) ?_
        · (intro _; go_simp)
        rintro _ _ ⟨rfl, rfl⟩
        try simp only [Act.put, List.setIfInBounds_toArray, List.set_cons_zero, List.set_cons_succ]
        refine linp_done (by kernel_rfl) fun W hS => ?_
        obtain ⟨s5, S5⟩ := MarkS.done hS
        clear S
        have S := Lib.hid S5
        clear S5 hS
        go_wp2_with fail
        exact S.out.done rfl
    · rw [if_neg c2] at S
      have HBI : Hid (∀ w, Calls Tryz.prog 129 #[.agg (planL n I).toArray, .int .i64 m] w fun e w' => e = .returned (.int .i64 (-1)) ∧ Below w.heap.size w w') := Lib.hid (fun w => bit_no n I m w h.vs.pl (by unfold Fs.isData at c2; omega))
      clear h H c2
      by_cases c3 : 0 < frm
      · rw [if_pos c3] at S
        go_enter Tryz.func92, Tryz.ntmps92
        go_wp2_with (first
          | (with_reducible refine wpList_load_plan (S.out.row).plan rfl (.tmp 16) rfl rfl ?_)
          | (go_at_call 129; refine (HBI.out _).mono ?_; rintro e w1 ⟨rfl, hb⟩; replace S := Lib.hid (S.out.below hb); clear hb))
        exact S.out.done rfl
      · rw [if_neg c3] at S
        go_enter Tryz.func92, Tryz.ntmps92
        go_wp2_with (first
          | (with_reducible refine wpList_load_plan (S.out.row).plan rfl (.tmp 16) rfl rfl ?_)
          | (go_at_call 129; refine (HBI.out _).mono ?_; rintro e w1 ⟨rfl, hb⟩; replace S := Lib.hid (S.out.below hb); clear hb))
        exact S.out.done rfl
set_option maxRecDepth 100000 in
set_option maxHeartbeats 4000000 in
theorem scut_2 {w : World} {B : Nat} {b : Blk} {s : Sto} {n I : Int} (h : Ctx w B b s n I) (m frm : Int) (h1 : -1000000 ≤ frm) (h2 : frm ≤ 1000000) : Calls Tryz.prog 92 #[.pointer (some ⟨B, 0, none⟩), .int .i64 m, .int .i64 1024, .int .i64 frm] w (Ends B b n I [] w s (Fs.cutM n I 2 m frm) fun y e _ => e = .returned (.int .i64 y)) := by
  refine calls_of fun R H => ?_
  have S := Lib.hid (Stp.start h (by simp) H)
  have HOK := Lib.hid (bits_ok h.vs).1
  have HDB : Hid (∀ w, Calls Tryz.prog 66 #[.agg (planL n I).toArray] w fun e w' => e = .returned (.int .i64 42) ∧ Below w.heap.size w w') := Lib.hid (fun w => by
    have := plDataBits_any n I w
    rw [if_pos h.vs.pl] at this
    exact this)
  have HCN : Hid (∀ W, Ctx W B b s n I → okP n m → Calls Tryz.prog 130 #[.pointer (some ⟨B, 0, none⟩), .int .i64 m, .int .i64 32, .int .i64 frm] W (Ends B b n I [] W s (Fs.cutNums (Fs.cutM n I 1) ((32 : Int) ^ 1) m frm) fun left e _ => e = .returned (.bool left))) := Lib.hid (fun W hc hm => scutNums_step (Fs.cutM n I 1) 32 (by decide) 1000000 (by decide) (fun W s' m frm hc q1 q2 => scut_1 hc m frm (by omega) q2) hc m frm hm ⟨h1, h2⟩)
  rw [show (2 : Nat) = 1 + 1 from rfl] at S
  rw [Fs.cutM] at S
  by_cases c1 : (32 : Int) ^ (1 + 1) ≤ frm
  · rw [if_pos c1] at S
    have c0 : (1024 : Int) ≤ frm := c1
    clear h H HCN c1
    go_enter Tryz.func92, Tryz.ntmps92
    go_wp2_with fail
    exact S.out.done rfl
  · rw [if_neg c1] at S
    have c0 : ¬ (1024 : Int) ≤ frm := c1
    clear c1
    by_cases c2 : Fs.isData n I m
    · rw [if_pos c2] at S
      have HBI : Hid (∀ w, Calls Tryz.prog 129 #[.agg (planL n I).toArray, .int .i64 m] w fun e w' => e = .returned (.int .i64 (m - Pl.dataN I)) ∧ Below w.heap.size w w') := Lib.hid (fun w => bit_yes n I m w h.vs.pl c2.1 c2.2)
      have g2 : decide (m - Pl.dataN I < 0) = false := decide_eq_false (by have := c2.1; omega)
      have HMO := Lib.hid (data_ok h.vs c2).1
      clear h H c2
      go_enter Tryz.func92, Tryz.ntmps92
      go_wp2_with (first
        | (with_reducible refine wpList_load_plan (S.out.row).plan rfl (.tmp 16) rfl rfl ?_)
        | (go_at_call 129; refine (HBI.out _).mono ?_; rintro e w1 ⟨rfl, hb⟩; replace S := Lib.hid (S.out.below hb); clear hb))
      refine (HCN.out _ S.out.ctx HMO.out).mono ?_
      intro e w8 hE
      rcases S.out.bind hE with ⟨rfl, hR⟩ | ⟨left, s, L6, _, rfl, S2⟩
      · exact ⟨rfl, hR⟩
      clear S hE
      have S := Lib.hid S2
      clear S2
      cases left with
      | true =>
        rw [if_pos rfl] at S
        go_wp2_with fail
        exact S.out.done rfl
      | false =>
        rw [if_neg (by decide)] at S
        go_wp2_with fail
        refine wp_region_linp (MarkS R B b n I w (fun (y : Int) e _ => e = .returned (.int .i64 y)) s (Fs.markM 42 (m - Pl.dataN I) false) (fun _ => Fs.ret (0 : Int))) (fun ch W => ch = [failE B] ∧ R (.panicked [failE B]) W) (fun i => i == 14) (fun i => [.pointer (some ⟨B, 0, none⟩), .pointer (some ⟨B, 0, none⟩), .pointer (some ⟨B, 0, none⟩), .pointer (some ⟨B, 0, none⟩), .pointer (some ⟨B, 1, none⟩), .agg (planL n I).toArray, .int .i64 42, .pointer (some ⟨B, 0, none⟩), .pointer (some ⟨B, 0, none⟩), .pointer (some ⟨B, 0, none⟩), .pointer (some ⟨B, 1, none⟩), .agg (planL n I).toArray, .int .i64 m, .int .i64 (m - Pl.dataN I)].getD i undef) false (by kernel_rfl) (by kernel_rfl) (fun ch a' W hd hh => ?_) S.out.drew ?_
        · exact ⟨hd, by obtain ⟨rfl, hR⟩ := hh; exact hR⟩
        refine linp_step (i := 0) (d := some 35) (v := (.pointer (some ⟨B, 0, none⟩))) rfl rfl (by kernel_rfl) (by kernel_rfl) rfl rfl (ord_value (by kernel_rfl) ?_) ?_
        · ((intro _ _ _; go_simp) <;> kernel_rfl)
        try simp only [Act.put, List.setIfInBounds_toArray, List.set_cons_zero, List.set_cons_succ]
        refine linp_step (i := 1) (d := some 36) (v := (.pointer (some ⟨B, 0, none⟩))) rfl rfl (by kernel_rfl) (by kernel_rfl) rfl rfl (ord_value (by kernel_rfl) ?_) ?_
        · ((intro _ _ _; go_simp) <;> kernel_rfl)
        try simp only [Act.put, List.setIfInBounds_toArray, List.set_cons_zero, List.set_cons_succ]
        refine linp_step (i := 2) (d := some 37) (v := (.pointer (some ⟨B, 0, none⟩))) rfl rfl (by kernel_rfl) (by kernel_rfl) rfl rfl (ord_value (by kernel_rfl) ?_) ?_
        · ((intro _ _ _; go_simp) <;> kernel_rfl)
        try simp only [Act.put, List.setIfInBounds_toArray, List.set_cons_zero, List.set_cons_succ]
        refine linp_step (i := 3) (d := some 38) (v := (.pointer (some ⟨B, 0, none⟩))) rfl rfl (by kernel_rfl) (by kernel_rfl) rfl rfl (ord_value (by kernel_rfl) ?_) ?_
        · ((intro _ _ _; go_simp) <;> kernel_rfl)
        try simp only [Act.put, List.setIfInBounds_toArray, List.set_cons_zero, List.set_cons_succ]
        refine linp_step (i := 4) (d := some 39) (v := (.pointer (some ⟨B, 1, none⟩))) rfl rfl (by kernel_rfl) (by kernel_rfl) rfl rfl (ord_value (by kernel_rfl) ?_) ?_
        · ((intro _ _ _; go_simp) <;> kernel_rfl)
        try simp only [Act.put, List.setIfInBounds_toArray, List.set_cons_zero, List.set_cons_succ]
        refine linp_step (i := 5) (d := some 40) (v := (.agg (planL n I).toArray)) rfl rfl (by kernel_rfl) (by kernel_rfl) rfl rfl (ord_mid loads_plan (by kernel_rfl) (.tmp 39) rfl rfl (fun _ W hS => MarkS.row hS)) ?_
        try simp only [Act.put, List.setIfInBounds_toArray, List.set_cons_zero, List.set_cons_succ]
        refine linp_step (i := 6) (d := some 41) (v := (.int .i64 42)) rfl rfl (by kernel_rfl) (by kernel_rfl) rfl rfl (ord_call (f := 66) (args := #[.agg (planL n I).toArray]) (by kernel_rfl) ?_ (fun _ W hS => (HDB.out W).mono fun e w' hh => ⟨hh.1, MarkS.below hS hh.2⟩)) ?_
        · (intro _; go_simp)
        try simp only [Act.put, List.setIfInBounds_toArray, List.set_cons_zero, List.set_cons_succ]
        refine linp_step (i := 7) (d := some 42) (v := (.pointer (some ⟨B, 0, none⟩))) rfl rfl (by kernel_rfl) (by kernel_rfl) rfl rfl (ord_value (by kernel_rfl) ?_) ?_
        · ((intro _ _ _; go_simp) <;> kernel_rfl)
        try simp only [Act.put, List.setIfInBounds_toArray, List.set_cons_zero, List.set_cons_succ]
        refine linp_step (i := 8) (d := some 43) (v := (.pointer (some ⟨B, 0, none⟩))) rfl rfl (by kernel_rfl) (by kernel_rfl) rfl rfl (ord_value (by kernel_rfl) ?_) ?_
        · ((intro _ _ _; go_simp) <;> kernel_rfl)
        try simp only [Act.put, List.setIfInBounds_toArray, List.set_cons_zero, List.set_cons_succ]
        refine linp_step (i := 9) (d := some 44) (v := (.pointer (some ⟨B, 0, none⟩))) rfl rfl (by kernel_rfl) (by kernel_rfl) rfl rfl (ord_value (by kernel_rfl) ?_) ?_
        · ((intro _ _ _; go_simp) <;> kernel_rfl)
        try simp only [Act.put, List.setIfInBounds_toArray, List.set_cons_zero, List.set_cons_succ]
        refine linp_step (i := 10) (d := some 45) (v := (.pointer (some ⟨B, 1, none⟩))) rfl rfl (by kernel_rfl) (by kernel_rfl) rfl rfl (ord_value (by kernel_rfl) ?_) ?_
        · ((intro _ _ _; go_simp) <;> kernel_rfl)
        try simp only [Act.put, List.setIfInBounds_toArray, List.set_cons_zero, List.set_cons_succ]
        refine linp_step (i := 11) (d := some 46) (v := (.agg (planL n I).toArray)) rfl rfl (by kernel_rfl) (by kernel_rfl) rfl rfl (ord_mid loads_plan (by kernel_rfl) (.tmp 45) rfl rfl (fun _ W hS => MarkS.row hS)) ?_
        try simp only [Act.put, List.setIfInBounds_toArray, List.set_cons_zero, List.set_cons_succ]
        refine linp_step (i := 12) (d := some 47) (v := (.int .i64 m)) rfl rfl (by kernel_rfl) (by kernel_rfl) rfl rfl (ord_value (by kernel_rfl) ?_) ?_
        · ((intro _ _ _; go_simp) <;> kernel_rfl)
        try simp only [Act.put, List.setIfInBounds_toArray, List.set_cons_zero, List.set_cons_succ]
        refine linp_step (i := 13) (d := some 48) (v := (.int .i64 (m - Pl.dataN I))) rfl rfl (by kernel_rfl) (by kernel_rfl) rfl rfl (ord_call (f := 129) (args := #[.agg (planL n I).toArray, .int .i64 m]) (by kernel_rfl) ?_ (fun _ W hS => (HBI.out W).mono fun e w' hh => ⟨hh.1, MarkS.below hS hh.2⟩)) ?_
        · (intro _; go_simp)
        try simp only [Act.put, List.setIfInBounds_toArray, List.set_cons_zero, List.set_cons_succ]
        refine linp_turn (i := 14) (d := some 49) (fun u k => u = .tuple #[] ∧ k = true) rfl rfl (by kernel_rfl) (by kernel_rfl) rfl (by kernel_rfl) ⟨_, _, rfl, rfl⟩ (by kernel_rfl) (gives_all (f := 46) (args := #[.pointer (some ⟨B, 0, none⟩), .int .i64 42, .int .i64 (m - Pl.dataN I), .bool false]) ?_ (fun W hS => (smark_step (Stp.ctx hS) 42 (m - Pl.dataN I) false HOK.out).mono fun e w' hE => by
          rcases Stp.bind hS hE with ⟨rfl, hR⟩ | ⟨_, s', L', _, rfl, S2⟩
          · exact Or.inr ⟨_, rfl, rfl, hR⟩
          · exact Or.inl ⟨_, rfl, true, ⟨rfl, rfl⟩, s', S2⟩)) ?_
        · (intro _; go_simp)
        rintro _ _ ⟨rfl, rfl⟩
        try simp only [Act.put, List.setIfInBounds_toArray, List.set_cons_zero, List.set_cons_succ]
        refine linp_done (by kernel_rfl) fun W hS => ?_
        obtain ⟨s5, S5⟩ := MarkS.done hS
        clear S
        have S := Lib.hid S5
        clear S5 hS
        go_wp2_with fail
        exact S.out.done rfl
    · rw [if_neg c2] at S
      have HBI : Hid (∀ w, Calls Tryz.prog 129 #[.agg (planL n I).toArray, .int .i64 m] w fun e w' => e = .returned (.int .i64 (-1)) ∧ Below w.heap.size w w') := Lib.hid (fun w => bit_no n I m w h.vs.pl (by unfold Fs.isData at c2; omega))
      clear h H c2
      by_cases c3 : 0 < frm
      · rw [if_pos c3] at S
        go_enter Tryz.func92, Tryz.ntmps92
        go_wp2_with (first
          | (with_reducible refine wpList_load_plan (S.out.row).plan rfl (.tmp 16) rfl rfl ?_)
          | (go_at_call 129; refine (HBI.out _).mono ?_; rintro e w1 ⟨rfl, hb⟩; replace S := Lib.hid (S.out.below hb); clear hb))
        exact S.out.done rfl
      · rw [if_neg c3] at S
        go_enter Tryz.func92, Tryz.ntmps92
        go_wp2_with (first
          | (with_reducible refine wpList_load_plan (S.out.row).plan rfl (.tmp 16) rfl rfl ?_)
          | (go_at_call 129; refine (HBI.out _).mono ?_; rintro e w1 ⟨rfl, hb⟩; replace S := Lib.hid (S.out.below hb); clear hb))
        exact S.out.done rfl
end Go.Proofs.YtncmihikpcdgoaaGreat

namespace Go.Proofs.YtncmihikpcdgoaaGreat
open Go.RowKit Go.Maps
open Dk (zeros zeros_length)
open Ii (Ino)
theorem Stp.one {α : Type} {R : Ending → World → Prop} {B : Nat} {b : Blk} {n I : Int} {Ls : List Nat} {w0 w : World} {K : α → Ending → World → Prop} {l : List (Nat × List Value)} {s : Sto} {m : Fs.M α} (h : Stp R B b n I Ls w0 K l s m w) (k : Nat) (x : Nat × List Value) (hx : l[k]? = some x) (i : Nat) (v : Value) (us : List Value) (hi : i + 1 ≤ x.2.length) (hu : us = x.2.take i ++ [v] ++ x.2.drop (i + 1)) : Stp R B b n I Ls w0 K (l.set k (x.1, us)) s m (w.setCell ⟨x.1, i, none⟩ v) := by
  obtain ⟨h1, h2⟩ := h.lower (List.mem_of_getElem? hx)
  refine ⟨h.lo.putAt k x hx i [v] us hi hu, h.ctx.only ((Only.refl [x.1] w).setCell (p := ⟨x.1, i, none⟩) (by simp) v) ?_ ?_, h.low, h.left⟩
  · simp; exact fun q => h1 q.symm
  · intro j hj q
    simp at q
    subst q
    exact h2 hj
namespace Fs
def cf4 (n I frm : Int) (y : Ino) : M Ino := andThen (cutM n I 1 y.e (frm - 4)) fun e => andThen (cutM n I 2 y.f (frm - 36)) fun f => ret { y with e := e, f := f }
def cf3 (n I frm : Int) (y : Ino) : M Ino := andThen (cutM n I 0 y.d (frm - 3)) fun d => cf4 n I frm { y with d := d }
def cf2 (n I frm : Int) (y : Ino) : M Ino := andThen (cutM n I 0 y.c (frm - 2)) fun c => cf3 n I frm { y with c := c }
def cf1 (n I frm : Int) (y : Ino) : M Ino := andThen (cutM n I 0 y.b (frm - 1)) fun b => cf2 n I frm { y with b := b }
def cf0 (n I frm : Int) (y : Ino) : M Ino := andThen (cutM n I 0 y.a frm) fun a => cf1 n I frm { y with a := a }
theorem cf_is (n I frm : Int) (x : Ino) : cutFile n I x frm = cf0 n I frm x := rfl
def cf (n I frm : Int) : Nat → Ino → M Ino
  | 0 => cf0 n I frm
  | 1 => cf1 n I frm
  | 2 => cf2 n I frm
  | 3 => cf3 n I frm
  | _ => cf4 n I frm
end Fs
set_option maxRecDepth 100000 in
set_option maxHeartbeats 4000000 in
theorem scutFile_step {w : World} {B : Nat} {b : Blk} {s : Sto} {n I : Int} (h : Ctx w B b s n I) (x : Ino) (frm : Int) (hf : 0 ≤ frm ∧ frm ≤ 100000) : Calls Tryz.prog 50 #[.pointer (some ⟨B, 0, none⟩), inoV x, .int .i64 frm] w (Ends B b n I [] w s (Fs.cutFile n I x frm) fun y e _ => e = .returned (inoV y)) := by
  refine calls_of fun R H => ?_
  have S0 := Lib.hid (Stp.start h (by simp) H)
  rw [Fs.cf_is] at S0
  clear h H
  unfold inoV
  go_enter Tryz.func50, Tryz.ntmps50
  go_wp2_with fail
  generalize hw : World.alloc _ _ = w1
  have S : Hid (Stp R B b n I [] w (fun (y : Ino) e _ => e = .returned (inoV y)) [(w.heap.size, inoL x), (w.heap.size + 1, inoL Ii.zero)] s (Fs.cf0 n I frm x) w1) := Lib.hid (by
    rw [← hw]
    exact (S0.out.alloc w.heap.size rfl (inoL x) _).alloc (w.heap.size + 1) (by simp) (inoL Ii.zero) _)
  clear hw S0
  go_loopw [11] (fun i wr => ∃ (k : Nat) (y : Ino) (s3 : Sto), k ≤ 4 ∧ i = .int .i64 k ∧ Hid (Stp R B b n I [] w (fun (y : Ino) e _ => e = .returned (inoV y)) [(w.heap.size, inoL y), (w.heap.size + 1, inoL Ii.zero)] s3 (Fs.cf n I frm k y) wr) ∧ ((k < 1 → y.a = x.a) ∧ (k < 2 → y.b = x.b) ∧ (k < 3 → y.c = x.c) ∧ (k < 4 → y.d = x.d))) (fun i _ => 4 - (intOf i).toNat)
  case atStart => exact ⟨0, x, s, by omega, rfl, S, ⟨fun _ => rfl, fun _ => rfl, fun _ => rfl, fun _ => rfl⟩⟩
  case round =>
    clear S
    obtain ⟨k, y, s3, hk, rfl, S, hy⟩ := hrel
    have hk : k = 0 ∨ k = 1 ∨ k = 2 ∨ k = 3 ∨ k = 4 := by omega
    rcases hk with rfl | rfl | rfl | rfl | rfl
    · have S1 : Hid (Stp R B b n I [] w (fun (y : Ino) e _ => e = .returned (inoV y)) [(w.heap.size, inoL y), (w.heap.size + 1, inoL Ii.zero)] s3 (Fs.andThen (Fs.cutM n I 0 x.a (frm)) fun a => Fs.cf n I frm 1 { y with a := a }) wr) := Lib.hid (by rw [← hy.1 (by omega)]; exact S.out)
      have ix := fun w => index_four0 x w
      clear S
      go_wp2_with (go_at_call 92; (with_reducible refine (scut_0 S1.out.ctx x.a (frm)).mono ?_); intro e w4 hE; rcases S1.out.bind hE with ⟨rfl, hR⟩ | ⟨v, s4, L4, _, rfl, S2⟩; (exact ⟨rfl, hR⟩); have S4 := Lib.hid S2; clear S2 hE; have cc := (S4.out.get 0 _ rfl).cell 5 _ rfl; have ff := (S4.out.get 0 _ rfl).frozen 5 (show 5 < 11 by decide))
      have S5 := Lib.hid (S4.out.one 0 _ rfl 5 (.int .i64 v) (inoL { y with a := v }) (show 5 + 1 ≤ 11 by decide) rfl)
      clear S4 S1 cc ff
      go_roundw
      case rel => exact ⟨1, _, s4, by omega, rfl, S5, ⟨fun q => by omega, fun q => hy.2.1 (by omega), fun q => hy.2.2.1 (by omega), fun q => hy.2.2.2 (by omega)⟩⟩
      case measure => simp [intOf]
    · have S1 : Hid (Stp R B b n I [] w (fun (y : Ino) e _ => e = .returned (inoV y)) [(w.heap.size, inoL y), (w.heap.size + 1, inoL Ii.zero)] s3 (Fs.andThen (Fs.cutM n I 0 x.b (frm - 1)) fun a => Fs.cf n I frm 2 { y with b := a }) wr) := Lib.hid (by rw [← hy.2.1 (by omega)]; exact S.out)
      have ix := fun w => index_four1 x w
      clear S
      go_wp2_with (go_at_call 92; (with_reducible refine (scut_0 S1.out.ctx x.b (frm - 1)).mono ?_); intro e w4 hE; rcases S1.out.bind hE with ⟨rfl, hR⟩ | ⟨v, s4, L4, _, rfl, S2⟩; (exact ⟨rfl, hR⟩); have S4 := Lib.hid S2; clear S2 hE; have cc := (S4.out.get 0 _ rfl).cell 6 _ rfl; have ff := (S4.out.get 0 _ rfl).frozen 6 (show 6 < 11 by decide))
      have S5 := Lib.hid (S4.out.one 0 _ rfl 6 (.int .i64 v) (inoL { y with b := v }) (show 6 + 1 ≤ 11 by decide) rfl)
      clear S4 S1 cc ff
      go_roundw
      case rel => exact ⟨2, _, s4, by omega, rfl, S5, ⟨fun q => by omega, fun q => by omega, fun q => hy.2.2.1 (by omega), fun q => hy.2.2.2 (by omega)⟩⟩
      case measure => simp [intOf]
    · have S1 : Hid (Stp R B b n I [] w (fun (y : Ino) e _ => e = .returned (inoV y)) [(w.heap.size, inoL y), (w.heap.size + 1, inoL Ii.zero)] s3 (Fs.andThen (Fs.cutM n I 0 x.c (frm - 2)) fun a => Fs.cf n I frm 3 { y with c := a }) wr) := Lib.hid (by rw [← hy.2.2.1 (by omega)]; exact S.out)
      have ix := fun w => index_four2 x w
      clear S
      go_wp2_with (go_at_call 92; (with_reducible refine (scut_0 S1.out.ctx x.c (frm - 2)).mono ?_); intro e w4 hE; rcases S1.out.bind hE with ⟨rfl, hR⟩ | ⟨v, s4, L4, _, rfl, S2⟩; (exact ⟨rfl, hR⟩); have S4 := Lib.hid S2; clear S2 hE; have cc := (S4.out.get 0 _ rfl).cell 7 _ rfl; have ff := (S4.out.get 0 _ rfl).frozen 7 (show 7 < 11 by decide))
      have S5 := Lib.hid (S4.out.one 0 _ rfl 7 (.int .i64 v) (inoL { y with c := v }) (show 7 + 1 ≤ 11 by decide) rfl)
      clear S4 S1 cc ff
      go_roundw
      case rel => exact ⟨3, _, s4, by omega, rfl, S5, ⟨fun q => by omega, fun q => by omega, fun q => by omega, fun q => hy.2.2.2 (by omega)⟩⟩
      case measure => simp [intOf]
    · have S1 : Hid (Stp R B b n I [] w (fun (y : Ino) e _ => e = .returned (inoV y)) [(w.heap.size, inoL y), (w.heap.size + 1, inoL Ii.zero)] s3 (Fs.andThen (Fs.cutM n I 0 x.d (frm - 3)) fun a => Fs.cf n I frm 4 { y with d := a }) wr) := Lib.hid (by rw [← hy.2.2.2 (by omega)]; exact S.out)
      have ix := fun w => index_four3 x w
      clear S
      go_wp2_with (go_at_call 92; (with_reducible refine (scut_0 S1.out.ctx x.d (frm - 3)).mono ?_); intro e w4 hE; rcases S1.out.bind hE with ⟨rfl, hR⟩ | ⟨v, s4, L4, _, rfl, S2⟩; (exact ⟨rfl, hR⟩); have S4 := Lib.hid S2; clear S2 hE; have cc := (S4.out.get 0 _ rfl).cell 8 _ rfl; have ff := (S4.out.get 0 _ rfl).frozen 8 (show 8 < 11 by decide))
      have S5 := Lib.hid (S4.out.one 0 _ rfl 8 (.int .i64 v) (inoL { y with d := v }) (show 8 + 1 ≤ 11 by decide) rfl)
      clear S4 S1 cc ff
      go_roundw
      case rel => exact ⟨4, _, s4, by omega, rfl, S5, ⟨fun q => by omega, fun q => by omega, fun q => by omega, fun q => by omega⟩⟩
      case measure => simp [intOf]
    · have S1 : Hid (Stp R B b n I [] w (fun (y : Ino) e _ => e = .returned (inoV y)) [(w.heap.size, inoL y), (w.heap.size + 1, inoL Ii.zero)] s3 (Fs.cf4 n I frm y) wr) := Lib.hid S.out
      clear S hy
      have c9 := (S1.out.get 0 _ rfl).cell 9 _ rfl
      have HE6 : Hid (frm - 36 = frm - 4 - 32) := Lib.hid (by omega)
      go_wp2_with fail
      refine (scut_1 S1.out.ctx y.e (frm - 4) (by omega) (by omega)).mono ?_
      intro e w4 hE
      rcases S1.out.bind hE with ⟨rfl, hR⟩ | ⟨v, s4, L4, _, rfl, S2⟩
      · exact ⟨rfl, hR⟩
      rw [HE6.out] at S2
      have S4 := Lib.hid S2
      clear S1 S2 hE c9 HE6
      have cc := (S4.out.get 0 _ rfl).cell 9 _ rfl
      have ff := (S4.out.get 0 _ rfl).frozen 9 (show 9 < 11 by decide)
      have S5 := Lib.hid (S4.out.one 0 _ rfl 9 (.int .i64 v) (inoL { y with e := v }) (show 9 + 1 ≤ 11 by decide) rfl)
      have c10 := (S5.out.get 0 _ rfl).cell 10 _ rfl
      clear S4
      go_wp2_with fail
      refine (scut_2 S5.out.ctx y.f (frm - 4 - 32) (by omega) (by omega)).mono ?_
      intro e w6 hE
      rcases S5.out.bind hE with ⟨rfl, hR⟩ | ⟨v2, s6, L6, _, rfl, S2⟩
      · exact ⟨rfl, hR⟩
      have S6 := Lib.hid S2
      clear S5 S2 hE c10 cc ff
      have cc := (S6.out.get 0 _ rfl).cell 10 _ rfl
      have ff := (S6.out.get 0 _ rfl).frozen 10 (show 10 < 11 by decide)
      have S7 : Hid (Stp R B b n I [] w (fun (y : Ino) e _ => e = .returned (inoV y)) [(w.heap.size, inoL { y with e := v, f := v2 }), (w.heap.size + 1, inoL Ii.zero)] s6 (Fs.ret { y with e := v, f := v2 }) (w6.setCell ⟨w.heap.size, 10, none⟩ (.int .i64 v2))) := Lib.hid (S6.out.one 0 _ rfl 10 (.int .i64 v2) (inoL { y with e := v, f := v2 }) (show 10 + 1 ≤ 11 by decide) rfl)
      clear S6
      generalize { y with e := v, f := v2 } = z at S7
      go_wp2_with (first
        | (with_reducible refine wpList_load_rw inoT (S7.out.get 0 _ rfl) rfl rfl (.tmp 4) rfl rfl ?_)
        | ((with_reducible refine wpList_store_rw (vs := inoL z) inoT (S7.out.get 1 _ rfl) ?_ ?_ (inoL_one _) rfl (.tmp 6) (.tmp 40) rfl ?_ ?_ ?_); (exact rfl); (exact rfl); (exact rfl); (exact rfl)))
      have S8 := Lib.hid (S7.out.put 1 _ rfl (inoL z) rfl)
      exact bodyPost_ret (results_row1 inoT _ 6 rfl _ (S8.out.get 1 _ rfl) rfl rfl) rfl (S8.out.done rfl)
end Go.Proofs.YtncmihikpcdgoaaGreat

namespace Go.Proofs.YtncmihikpcdgoaaGreat
open Go.RowKit Go.Maps
open Dk (zeros zeros_length)
open Ii (Ino)
section
variable {α : Type} {R : Ending → World → Prop} {B : Nat} {b : Blk} {n I : Int} {Ls : List Nat} {w0 w : World} {K : α → Ending → World → Prop} {l : List (Nat × List Value)} {s : Sto} {m : Fs.M α}
theorem Stp.part (h : Stp R B b n I Ls w0 K l s m w) (k : Nat) (x : Nat × List Value) (hx : l[k]? = some x) (o : Nat) (vs us : List Value) (ho : o + vs.length ≤ x.2.length) (hu : us = x.2.take o ++ vs ++ x.2.drop (o + vs.length)) : Stp R B b n I Ls w0 K (l.set k (x.1, us)) s m (w.setCells x.1 o vs) := by
  obtain ⟨h1, h2⟩ := h.lower (List.mem_of_getElem? hx)
  refine ⟨h.lo.putAt k x hx o vs us ho hu, h.ctx.only ((Only.refl [x.1] w).setCells x.1 (by simp) vs o w) ?_ ?_, h.low, h.left⟩
  · simp; exact fun q => h1 q.symm
  · intro j hj q
    simp at q
    subst q
    exact h2 hj
end
def blankP (p : List UInt8) (k : Nat) : List UInt8 := p.take k ++ List.replicate (64 - k) 0
theorem blankP_length (p : List UInt8) (k : Nat) (hp : p.length = 64) (hk : k ≤ 64) : (blankP p k).length = 64 := by
  unfold blankP; simp; omega
theorem byteVals_zero (c : Nat) : byteVals (List.replicate c 0) = List.replicate c (.int .u8 0) := by
  unfold byteVals
  rw [List.map_replicate]; rfl
theorem blank_vals (p : List UInt8) (k : Nat) (hp : p.length = 64) (hk : k ≤ 64) : byteVals (blankP p k) = (byteVals p).take k ++ List.replicate (64 - k) (.int .u8 0) ++ (byteVals p).drop (k + (List.replicate (64 - k) (Value.int .u8 0)).length) := by
  rw [List.drop_of_length_le (by rw [byteVals_length, hp, List.length_replicate]; omega), List.append_nil, ← byteVals_zero]
  unfold blankP byteVals
  rw [List.map_append, List.map_take]
set_option maxRecDepth 100000 in
theorem clear_page {w : World} {b k : Nat} {p : List UInt8} (hp : PageAt w b p) (hk : k < 64) (ty : TypeId) (c : Nat) :
    (Builtin.clear_ #[48] ty #[.slice (some ⟨b, k, none⟩) (64 - k) c]).run Tryz.prog w = .ok (.tuple #[]) (w.setCells b k (List.replicate (64 - k) (.int .u8 0))) :=
  Lib.run_clear_slice w _ _ ty (.int .u8 0) Tryz.underlying48 zero8 rfl rfl b k (64 - k) c (by omega) (fun j hj => hp.isSome (k + j) (by omega)) (fun j hj => hp.frozen (k + j) (by omega))
theorem wpList_clear_page {ops : Array Oper} {rest : List Oper} {op : Oper} {a : Act} {Q : Exit → Act → World → Prop} {W : World} {b k : Nat} {p : List UInt8} (hp : PageAt W b p) (hk : k < 64) (n : Nat) (hgd : op.guard = none) (v : Operand) (c : Call) (ho : op.op = .call c) (hc : c.callee = .builtin .clear) (ha : c.args = #[v]) (ht : c.argTypes = #[48])
    (hv : a.eval v = .slice (some ⟨b, k, none⟩) (64 - k) n) (h : wpList Tryz.prog ops Q rest (a.put op.dst (.tuple #[])) (W.setCells b k (List.replicate (64 - k) (.int .u8 0)))) : wpList Tryz.prog ops Q (op :: rest) a W :=
  wpList_plain hgd fun _ hK => by
    have h2 := fun ty => clear_page hp hk ty n
    unfold Oper.wp
    have hr : (execOp a.eval op).run Tryz.prog W = .ok (.value (.tuple #[])) (W.setCells b k (List.replicate (64 - k) (.int .u8 0))) := by
      unfold execOp
      simp [ho, resolve, hc, ha, ht, hv, Go.invoke, Go.builtin, h2]
    rw [hr]
    exact hK _ _ h
set_option maxRecDepth 100000 in
set_option maxHeartbeats 4000000 in
theorem sblank_step {w : World} {B : Nat} {b : Blk} {s : Sto} {n I : Int} (h : Ctx w B b s n I) (x : Ino) (sz : Nat) (hs : sz ≤ 67840) : Calls Tryz.prog 57 #[.pointer (some ⟨B, 0, none⟩), inoV x, .int .i64 (sz : Int)] w (Ends B b n I [] w s (Fs.blankM n I x (sz : Int)) fun _ e _ => e = .returned (.tuple #[])) := by
  refine calls_of fun R H => ?_
  have S := Lib.hid (Stp.start h (by simp) H)
  unfold Fs.blankM at S
  have er : (sz : Int) % 64 = ((sz % 64 : Nat) : Int) := by omega
  have HK : Hid (sz % 64 < 64) := Lib.hid (Nat.mod_lt _ (by decide))
  by_cases c0 : (sz : Int) % 64 = 0
  · rw [if_pos c0] at S
    have c0n : sz % 64 = 0 := by omega
    clear h H c0
    unfold inoV
    go_enter Tryz.func57, Tryz.ntmps57
    go_wp2_with fail
    refine bodyPost_ret (results_none rfl _ _ _) rfl ?_
    exact (S.out.below (below_alloc _ _)).done rfl
  · rw [if_neg c0] at S
    have HSL : Hid (∀ (W : World) (b' : Nat), (Instr.sliceAt 68 (.pointer (some ⟨b', 0, none⟩)) (some (.int .i64 ((sz : Int) % 64))) none none).run Tryz.prog W = .ok (.slice (some ⟨b', sz % 64, none⟩) (64 - sz % 64) (64 - sz % 64)) W) := Lib.hid (fun W b' => by rw [er]; exact run_slice_page_from W b' (sz % 64) HK.out)
    have hkt : ((sz : Int) % 64).toNat = sz % 64 := by omega
    rw [hkt] at S
    have g0 : ((sz : Int) % 64 == 0) = false := by simpa using c0
    have HF : Hid (∀ W, Ctx W B b s n I → Calls Tryz.prog 99 #[.agg (baseL b.s n I).toArray, .agg (inoL x).toArray, .int .i64 ((sz : Int) / 64)] W fun e w' => e = .returned (exV (fun m => .int .i64 m) (.int .i64 0) (Fs.findF n I x ((sz : Int) / 64) (nv s))) ∧ Below W.heap.size W w') := Lib.hid (fun W hc => bfind_any hc.store hc.vs x ((sz : Int) / 64))
    clear h H c0 hkt er
    cases hf : Fs.findF n I x ((sz : Int) / 64) (nv s) with
    | error er =>
      obtain rfl := find_err hf
      have HFL : Hid (∀ f : Int → Fs.M Unit, Fs.andThen (Fs.tell (Fs.findF n I x ((sz : Int) / 64))) f (nv s) = (.error 5, nv s, [])) := Lib.hid (fun f => by unfold Fs.andThen Fs.tell; rw [hf])
      rw [hf] at HF
      simp only [exV] at HF
      clear hf
      unfold inoV
      go_enter Tryz.func57, Tryz.ntmps57
      go_wp2_with fail
      generalize hw : World.alloc _ _ = w1
      replace S : Hid (Stp R B b n I [] w (fun _ e _ => e = .returned (.tuple #[])) [(w.heap.size, inoL x)] s (Fs.andThen (Fs.tell (Fs.findF n I x ((sz : Int) / 64))) fun m => Fs.andThen (Fs.tell (Fs.dataF n I m)) fun was => if was.take (sz % 64) ++ List.replicate (64 - sz % 64) 0 = was then Fs.ret () else Fs.wr m.toNat (was.take (sz % 64) ++ List.replicate (64 - sz % 64) 0)) w1) := Lib.hid (by
        rw [← hw]
        exact S.out.alloc w.heap.size rfl (inoL x) _)
      clear hw
      refine wp_region_linp (fun (_ : Unit) W => Stp R B b n I [] w (fun _ e _ => e = .returned (.tuple #[])) [(w.heap.size, inoL x)] s (Fs.andThen (Fs.tell (Fs.findF n I x ((sz : Int) / 64))) fun m => Fs.andThen (Fs.tell (Fs.dataF n I m)) fun was => if was.take (sz % 64) ++ List.replicate (64 - sz % 64) 0 = was then Fs.ret () else Fs.wr m.toNat (was.take (sz % 64) ++ List.replicate (64 - sz % 64) 0)) W) (fun _ _ => False) (fun _ => false) (fun i => [.pointer (some ⟨B, 0, none⟩), .pointer (some ⟨B, 0, none⟩), .pointer (some ⟨B, 0, none⟩), .agg (baseL b.s n I).toArray, .agg (inoL x).toArray, .int .i64 (sz : Int), .int .i64 ((sz : Int) / 64), .tuple #[.int .i64 0, .int .i64 5], .tuple #[.int .i64 0, .int .i64 5], .int .i64 0, .int .i64 5, .int .i64 0, .int .i64 5].getD i undef) () (by kernel_rfl) (by kernel_rfl) (fun _ _ _ _ h => h.elim) S.out.drew ?_
      refine linp_step (i := 0) (d := some 16) (v := (.pointer (some ⟨B, 0, none⟩))) rfl rfl (by kernel_rfl) (by kernel_rfl) rfl rfl (ord_value (by kernel_rfl) ?_) ?_
      · ((intro _ _ _; go_simp) <;> kernel_rfl)
      try simp only [Act.put, List.setIfInBounds_toArray, List.set_cons_zero, List.set_cons_succ]
      refine linp_step (i := 1) (d := some 17) (v := (.pointer (some ⟨B, 0, none⟩))) rfl rfl (by kernel_rfl) (by kernel_rfl) rfl rfl (ord_value (by kernel_rfl) ?_) ?_
      · ((intro _ _ _; go_simp) <;> kernel_rfl)
      try simp only [Act.put, List.setIfInBounds_toArray, List.set_cons_zero, List.set_cons_succ]
      refine linp_step (i := 2) (d := some 18) (v := (.pointer (some ⟨B, 0, none⟩))) rfl rfl (by kernel_rfl) (by kernel_rfl) rfl rfl (ord_value (by kernel_rfl) ?_) ?_
      · ((intro _ _ _; go_simp) <;> kernel_rfl)
      try simp only [Act.put, List.setIfInBounds_toArray, List.set_cons_zero, List.set_cons_succ]
      refine linp_step (i := 3) (d := some 19) (v := (.agg (baseL b.s n I).toArray)) rfl rfl (by kernel_rfl) (by kernel_rfl) rfl rfl (ord_mid loads_base (by kernel_rfl) (.tmp 18) rfl rfl (fun _ W hS => hS.row.base)) ?_
      try simp only [Act.put, List.setIfInBounds_toArray, List.set_cons_zero, List.set_cons_succ]
      refine linp_step (i := 4) (d := some 20) (v := (.agg (inoL x).toArray)) rfl rfl (by kernel_rfl) (by kernel_rfl) rfl rfl (ord_mid loads_ino (by kernel_rfl) (.tmp 4) rfl rfl (fun _ W hS => (hS.get 0 _ rfl).range)) ?_
      try simp only [Act.put, List.setIfInBounds_toArray, List.set_cons_zero, List.set_cons_succ]
      refine linp_step (i := 5) (d := some 21) (v := (.int .i64 (sz : Int))) rfl rfl (by kernel_rfl) (by kernel_rfl) rfl rfl (ord_value (by kernel_rfl) ?_) ?_
      · ((intro _ _ _; go_simp) <;> kernel_rfl)
      try simp only [Act.put, List.setIfInBounds_toArray, List.set_cons_zero, List.set_cons_succ]
      refine linp_step (i := 6) (d := some 22) (v := .int .i64 ((sz : Int) / 64)) rfl rfl (by kernel_rfl) (by kernel_rfl) rfl rfl (ord_value (by kernel_rfl) ?_) ?_
      · intro _ _ _
        go_simp
        exact IntWalk.i64_in _ (by omega)
      try simp only [Act.put, List.setIfInBounds_toArray, List.set_cons_zero, List.set_cons_succ]
      refine linp_step (i := 7) (d := some 23) (v := (.tuple #[.int .i64 0, .int .i64 5])) rfl rfl (by kernel_rfl) (by kernel_rfl) rfl rfl (ord_call (f := 99) (args := #[.agg (baseL b.s n I).toArray, .agg (inoL x).toArray, .int .i64 ((sz : Int) / 64)]) (by kernel_rfl) ?_ (fun _ W hS => (HF.out W hS.ctx).mono fun e w' hh => ⟨hh.1, hS.below hh.2⟩)) ?_
      · (intro _; go_simp)
      try simp only [Act.put, List.setIfInBounds_toArray, List.set_cons_zero, List.set_cons_succ]
      refine linp_step (i := 8) (d := some 15) (v := (.tuple #[.int .i64 0, .int .i64 5])) rfl rfl (by kernel_rfl) (by kernel_rfl) rfl rfl (ord_value (by kernel_rfl) ?_) ?_
      · ((intro _ _ _; go_simp) <;> kernel_rfl)
      try simp only [Act.put, List.setIfInBounds_toArray, List.set_cons_zero, List.set_cons_succ]
      refine linp_step (i := 9) (d := some 24) (v := (.int .i64 0)) rfl rfl (by kernel_rfl) (by kernel_rfl) rfl rfl (ord_value (by kernel_rfl) ?_) ?_
      · ((intro _ _ _; go_simp) <;> kernel_rfl)
      try simp only [Act.put, List.setIfInBounds_toArray, List.set_cons_zero, List.set_cons_succ]
      refine linp_step (i := 10) (d := some 25) (v := (.int .i64 5)) rfl rfl (by kernel_rfl) (by kernel_rfl) rfl rfl (ord_value (by kernel_rfl) ?_) ?_
      · ((intro _ _ _; go_simp) <;> kernel_rfl)
      try simp only [Act.put, List.setIfInBounds_toArray, List.set_cons_zero, List.set_cons_succ]
      refine linp_step (i := 11) (d := some 7) (v := (.int .i64 0)) rfl rfl (by kernel_rfl) (by kernel_rfl) rfl rfl (ord_value (by kernel_rfl) ?_) ?_
      · ((intro _ _ _; go_simp) <;> kernel_rfl)
      try simp only [Act.put, List.setIfInBounds_toArray, List.set_cons_zero, List.set_cons_succ]
      refine linp_step (i := 12) (d := some 8) (v := (.int .i64 5)) rfl rfl (by kernel_rfl) (by kernel_rfl) rfl rfl (ord_value (by kernel_rfl) ?_) ?_
      · ((intro _ _ _; go_simp) <;> kernel_rfl)
      try simp only [Act.put, List.setIfInBounds_toArray, List.set_cons_zero, List.set_cons_succ]
      refine linp_done (by kernel_rfl) fun W hS => ?_
      have S1 := Lib.hid hS
      clear hS S HF
      go_wp2_with (go_at_call 85; (with_reducible refine (must_no S1.out.ctx 5 (by decide)).mono ?_); rintro e w3 ⟨rfl, hB, hO⟩)
      exact ⟨rfl, S1.out.fails (Fails.err (HFL.out _)) (by decide) hB hO⟩
    | ok m =>
      replace S := Lib.hid (S.out.told hf)
      rw [hf] at HF
      simp only [exV] at HF
      clear hf
      unfold inoV
      go_enter Tryz.func57, Tryz.ntmps57
      go_wp2_with fail
      generalize hw : World.alloc _ _ = w1
      replace S : Hid (Stp R B b n I [] w (fun _ e _ => e = .returned (.tuple #[])) [(w.heap.size, inoL x)] s (Fs.andThen (Fs.tell (Fs.dataF n I m)) fun was => if was.take (sz % 64) ++ List.replicate (64 - sz % 64) 0 = was then Fs.ret () else Fs.wr m.toNat (was.take (sz % 64) ++ List.replicate (64 - sz % 64) 0)) w1) := Lib.hid (by
        rw [← hw]
        exact S.out.alloc w.heap.size rfl (inoL x) _)
      clear hw
      refine wp_region_linp (fun (_ : Unit) W => Stp R B b n I [] w (fun _ e _ => e = .returned (.tuple #[])) [(w.heap.size, inoL x)] s (Fs.andThen (Fs.tell (Fs.dataF n I m)) fun was => if was.take (sz % 64) ++ List.replicate (64 - sz % 64) 0 = was then Fs.ret () else Fs.wr m.toNat (was.take (sz % 64) ++ List.replicate (64 - sz % 64) 0)) W) (fun _ _ => False) (fun _ => false) (fun i => [.pointer (some ⟨B, 0, none⟩), .pointer (some ⟨B, 0, none⟩), .pointer (some ⟨B, 0, none⟩), .agg (baseL b.s n I).toArray, .agg (inoL x).toArray, .int .i64 (sz : Int), .int .i64 ((sz : Int) / 64), .tuple #[.int .i64 m, .int .i64 0], .tuple #[.int .i64 m, .int .i64 0], .int .i64 m, .int .i64 0, .int .i64 m, .int .i64 0].getD i undef) () (by kernel_rfl) (by kernel_rfl) (fun _ _ _ _ h => h.elim) S.out.drew ?_
      refine linp_step (i := 0) (d := some 16) (v := (.pointer (some ⟨B, 0, none⟩))) rfl rfl (by kernel_rfl) (by kernel_rfl) rfl rfl (ord_value (by kernel_rfl) ?_) ?_
      · ((intro _ _ _; go_simp) <;> kernel_rfl)
      try simp only [Act.put, List.setIfInBounds_toArray, List.set_cons_zero, List.set_cons_succ]
      refine linp_step (i := 1) (d := some 17) (v := (.pointer (some ⟨B, 0, none⟩))) rfl rfl (by kernel_rfl) (by kernel_rfl) rfl rfl (ord_value (by kernel_rfl) ?_) ?_
      · ((intro _ _ _; go_simp) <;> kernel_rfl)
      try simp only [Act.put, List.setIfInBounds_toArray, List.set_cons_zero, List.set_cons_succ]
      refine linp_step (i := 2) (d := some 18) (v := (.pointer (some ⟨B, 0, none⟩))) rfl rfl (by kernel_rfl) (by kernel_rfl) rfl rfl (ord_value (by kernel_rfl) ?_) ?_
      · ((intro _ _ _; go_simp) <;> kernel_rfl)
      try simp only [Act.put, List.setIfInBounds_toArray, List.set_cons_zero, List.set_cons_succ]
      refine linp_step (i := 3) (d := some 19) (v := (.agg (baseL b.s n I).toArray)) rfl rfl (by kernel_rfl) (by kernel_rfl) rfl rfl (ord_mid loads_base (by kernel_rfl) (.tmp 18) rfl rfl (fun _ W hS => hS.row.base)) ?_
      try simp only [Act.put, List.setIfInBounds_toArray, List.set_cons_zero, List.set_cons_succ]
      refine linp_step (i := 4) (d := some 20) (v := (.agg (inoL x).toArray)) rfl rfl (by kernel_rfl) (by kernel_rfl) rfl rfl (ord_mid loads_ino (by kernel_rfl) (.tmp 4) rfl rfl (fun _ W hS => (hS.get 0 _ rfl).range)) ?_
      try simp only [Act.put, List.setIfInBounds_toArray, List.set_cons_zero, List.set_cons_succ]
      refine linp_step (i := 5) (d := some 21) (v := (.int .i64 (sz : Int))) rfl rfl (by kernel_rfl) (by kernel_rfl) rfl rfl (ord_value (by kernel_rfl) ?_) ?_
      · ((intro _ _ _; go_simp) <;> kernel_rfl)
      try simp only [Act.put, List.setIfInBounds_toArray, List.set_cons_zero, List.set_cons_succ]
      refine linp_step (i := 6) (d := some 22) (v := .int .i64 ((sz : Int) / 64)) rfl rfl (by kernel_rfl) (by kernel_rfl) rfl rfl (ord_value (by kernel_rfl) ?_) ?_
      · intro _ _ _
        go_simp
        exact IntWalk.i64_in _ (by omega)
      try simp only [Act.put, List.setIfInBounds_toArray, List.set_cons_zero, List.set_cons_succ]
      refine linp_step (i := 7) (d := some 23) (v := (.tuple #[.int .i64 m, .int .i64 0])) rfl rfl (by kernel_rfl) (by kernel_rfl) rfl rfl (ord_call (f := 99) (args := #[.agg (baseL b.s n I).toArray, .agg (inoL x).toArray, .int .i64 ((sz : Int) / 64)]) (by kernel_rfl) ?_ (fun _ W hS => (HF.out W hS.ctx).mono fun e w' hh => ⟨hh.1, hS.below hh.2⟩)) ?_
      · (intro _; go_simp)
      try simp only [Act.put, List.setIfInBounds_toArray, List.set_cons_zero, List.set_cons_succ]
      refine linp_step (i := 8) (d := some 15) (v := (.tuple #[.int .i64 m, .int .i64 0])) rfl rfl (by kernel_rfl) (by kernel_rfl) rfl rfl (ord_value (by kernel_rfl) ?_) ?_
      · ((intro _ _ _; go_simp) <;> kernel_rfl)
      try simp only [Act.put, List.setIfInBounds_toArray, List.set_cons_zero, List.set_cons_succ]
      refine linp_step (i := 9) (d := some 24) (v := (.int .i64 m)) rfl rfl (by kernel_rfl) (by kernel_rfl) rfl rfl (ord_value (by kernel_rfl) ?_) ?_
      · ((intro _ _ _; go_simp) <;> kernel_rfl)
      try simp only [Act.put, List.setIfInBounds_toArray, List.set_cons_zero, List.set_cons_succ]
      refine linp_step (i := 10) (d := some 25) (v := (.int .i64 0)) rfl rfl (by kernel_rfl) (by kernel_rfl) rfl rfl (ord_value (by kernel_rfl) ?_) ?_
      · ((intro _ _ _; go_simp) <;> kernel_rfl)
      try simp only [Act.put, List.setIfInBounds_toArray, List.set_cons_zero, List.set_cons_succ]
      refine linp_step (i := 11) (d := some 7) (v := (.int .i64 m)) rfl rfl (by kernel_rfl) (by kernel_rfl) rfl rfl (ord_value (by kernel_rfl) ?_) ?_
      · ((intro _ _ _; go_simp) <;> kernel_rfl)
      try simp only [Act.put, List.setIfInBounds_toArray, List.set_cons_zero, List.set_cons_succ]
      refine linp_step (i := 12) (d := some 8) (v := (.int .i64 0)) rfl rfl (by kernel_rfl) (by kernel_rfl) rfl rfl (ord_value (by kernel_rfl) ?_) ?_
      · ((intro _ _ _; go_simp) <;> kernel_rfl)
      try simp only [Act.put, List.setIfInBounds_toArray, List.set_cons_zero, List.set_cons_succ]
      refine linp_done (by kernel_rfl) fun W hS => ?_
      have S1 := Lib.hid hS
      clear hS S HF
      go_wp2_with (go_at_call 85; (with_reducible refine (must_ok _).mono ?_); rintro e w3 ⟨rfl, rfl⟩)
      refine (smustData_any S1.out.ctx m).mono ?_
      intro e w4 hE
      rcases S1.out.bind hE with ⟨rfl, hR⟩ | ⟨p, s2, L2, hp, rfl, S2⟩
      · exact ⟨rfl, hR⟩
      have HMD : Hid (m ≠ 0 → okP n m) := Lib.hid (fun hm => (data_ok S1.out.ctx.vs (data_of S1.out.ctx.vs hp hm).1).1)
      have hd : Fs.dataF n I m (nv s) = .ok p := by
        unfold Fs.tell at hp
        injection hp
      have HDL := Lib.hid (data_len S1.out.ctx.vs hd)
      have HM0 : Hid (m = 0 → p = zeros) := Lib.hid (fun hm => by
        rw [hm] at hd
        unfold Fs.dataF at hd
        rw [if_pos rfl] at hd
        injection hd with hd
        exact hd.symm)
      have S := Lib.hid S2
      clear S1 S2 hE hp hd
      by_cases hpq : blankP p (sz % 64) = p
      · replace S := Lib.hid (S.out.of (congrFun (if_pos hpq) _))
        have HV : Hid (byteVals p = (byteVals p).take (sz % 64) ++ List.replicate (64 - sz % 64) (Value.int .u8 0) ++ (byteVals p).drop (sz % 64 + (List.replicate (64 - sz % 64) (Value.int .u8 0)).length)) := Lib.hid (by
          have := blank_vals p (sz % 64) HDL.out (Nat.le_of_lt HK.out)
          rw [hpq] at this
          exact this)
        have E0 : ∀ (w : World) (x y : Operand), (eqGuard .neq 68 x y (pageV p) (pageV p)).run Tryz.prog w = .ok () w := fun w x y => run_neGuard_page w x y p p
        have E1 : ∀ (w : World), (binOp .neq 68 (pageV p) (pageV p)).run Tryz.prog w = .ok (.bool false) w := fun w => run_neq_same w p HDL.out
        clear hpq HM0 HMD
        go_wp2_with (first
          | ((with_reducible refine wpList_store_new rfl (.tmp 9) (.tmp 31) rfl rfl ?_ ?_ HDL.out ?_); (exact rfl); (exact rfl); intro W2 hP hB2 hz2; replace S := Lib.hid (S.out.made hP.rowAt hB2 hz2); clear hP hB2 hz2)
          | (with_reducible refine wpList_load_page (S.out.lo.page 1 rfl HDL.out) rfl (.tmp 9) rfl rfl ?_)
          | ((with_reducible refine wpList_store_new rfl (.tmp 10) (.tmp 32) rfl rfl ?_ ?_ HDL.out ?_); (exact rfl); (exact rfl); intro W3 hP hB2 hz2; replace S := Lib.hid (S.out.made hP.rowAt hB2 hz2); clear hP hB2 hz2; have hsl := HSL.out W3 W2.heap.size)
          | ((with_reducible refine wpList_clear_page (S.out.lo.page 2 rfl HDL.out) HK.out (64 - sz % 64) rfl (.tmp 34) _ rfl rfl rfl rfl ?_ ?_); (exact rfl); clear hsl; have S3 := Lib.hid (S.out.part 2 _ rfl (sz % 64) (List.replicate (64 - sz % 64) (.int .u8 0)) (byteVals p) (by rw [byteVals_length, HDL.out, List.length_replicate]; have := HK.out; omega) HV.out); clear S; have S := Lib.hid S3.out; clear S3)
          | (with_reducible refine wpList_load_page (S.out.lo.page 2 rfl HDL.out) rfl (.tmp 10) rfl rfl ?_))
        go_end0
        exact S.out.done rfl
      · replace S := Lib.hid (S.out.of (congrFun (if_neg hpq) _))
        have HV := Lib.hid (blank_vals p (sz % 64) HDL.out (Nat.le_of_lt HK.out))
        have HQL := Lib.hid (blankP_length p (sz % 64) HDL.out (Nat.le_of_lt HK.out))
        have HMO : Hid (okP n m) := Lib.hid (HMD.out (fun hm => hpq (by
          rw [HM0.out hm]
          unfold blankP zeros
          rw [List.take_replicate, List.replicate_append_replicate]
          congr 1
          have := HK.out
          omega)))
        have E0 : ∀ (w : World) (x y : Operand), (eqGuard .neq 68 x y (pageV (blankP p (sz % 64))) (pageV p)).run Tryz.prog w = .ok () w := fun w x y => run_neGuard_page w x y _ p
        have E1 : ∀ (w : World), (binOp .neq 68 (pageV (blankP p (sz % 64))) (pageV p)).run Tryz.prog w = .ok (.bool true) w := fun w => run_neq_not w _ p HQL.out HDL.out hpq
        replace S : Hid (Stp R B b n I [] w (fun _ e _ => e = .returned (.tuple #[])) [(w.heap.size, inoL x)] s2 (Fs.wr m.toNat (blankP p (sz % 64))) w4) := S
        clear hpq HM0 HMD
        generalize hq : blankP p (sz % 64) = q at HV HQL E0 E1 S
        clear hq
        go_wp2_with (first
          | ((with_reducible refine wpList_store_new rfl (.tmp 9) (.tmp 31) rfl rfl ?_ ?_ HDL.out ?_); (exact rfl); (exact rfl); intro W2 hP hB2 hz2; replace S := Lib.hid (S.out.made hP.rowAt hB2 hz2); clear hP hB2 hz2)
          | (with_reducible refine wpList_load_page (S.out.lo.page 1 rfl HDL.out) rfl (.tmp 9) rfl rfl ?_)
          | ((with_reducible refine wpList_store_new rfl (.tmp 10) (.tmp 32) rfl rfl ?_ ?_ HDL.out ?_); (exact rfl); (exact rfl); intro W3 hP hB2 hz2; replace S := Lib.hid (S.out.made hP.rowAt hB2 hz2); clear hP hB2 hz2; have hsl := HSL.out W3 W2.heap.size)
          | ((with_reducible refine wpList_clear_page (S.out.lo.page 2 rfl HDL.out) HK.out (64 - sz % 64) rfl (.tmp 34) _ rfl rfl rfl rfl ?_ ?_); (exact rfl); clear hsl; have S3 := Lib.hid (S.out.part 2 _ rfl (sz % 64) (List.replicate (64 - sz % 64) (.int .u8 0)) (byteVals q) (by rw [byteVals_length, HDL.out, List.length_replicate]; have := HK.out; omega) HV.out); clear S; have S := Lib.hid S3.out; clear S3)
          | (with_reducible refine wpList_load_page (S.out.lo.page 2 rfl HQL.out) rfl (.tmp 10) rfl rfl ?_)
          | (go_at_call 53; (with_reducible refine (sput_step S.out.ctx m q HMO.out HQL.out).mono ?_); intro e w8 hE; rcases S.out.last hE with ⟨rfl, hR⟩ | ⟨_, s6, L6, _, rfl, S2⟩; (exact ⟨rfl, hR⟩); clear S hE; have S := Lib.hid S2; clear S2))
        go_end0
        exact S.out.done rfl
end Go.Proofs.YtncmihikpcdgoaaGreat

namespace Go.Proofs.YtncmihikpcdgoaaGreat
open Go.RowKit Go.Maps
open Dk (zeros zeros_length)
open Ii (Ino)
theorem inodeBit_any (i : Int) (w : World) (h : 1 ≤ i ∧ i ≤ 1000) : Calls Tryz.prog 48 #[.int .i64 i] w fun e w' => e = .returned (.int .i64 (i - 1)) ∧ w = w' := by
  go_enter Tryz.func48, Tryz.ntmps48
  go_wp2
  go_ret
  exact ⟨rfl, rfl⟩
theorem taken_in {I i : Int} {V : Fs.View} {x : Ino} (h : Fs.takenF I i V = .ok x) : 1 ≤ i ∧ i ≤ I := by
  unfold Fs.takenF at h
  split at h
  · assumption
  · cases h
theorem tell_ok {α : Type} {f : Fs.View → Except Int α} {V V' : Fs.View} {a : α} {L : List Nat} (h : Fs.tell f V = (.ok a, V', L)) : f V = .ok a := by
  unfold Fs.tell at h
  injection h
theorem inodeBits_is {n I : Int} (h : Pl.rightB n I = true) (w : World) : Calls Tryz.prog 47 #[planV n I] w fun e w' => e = .returned (.int .i64 41) ∧ Below w.heap.size w w' := by
  have := plInodeBits_any n I w
  rw [if_pos h] at this
  exact this
set_option maxRecDepth 100000 in
set_option maxHeartbeats 2000000 in
theorem snew_step {w : World} {B : Nat} {b : Blk} {s : Sto} {n I : Int} (h : Ctx w B b s n I) (x : Ino) : Calls Tryz.prog 14 #[.pointer (some ⟨B, 0, none⟩), inoV x] w (Ends B b n I [] w s (Fs.newM n I x) fun i e _ => e = .returned (.int .i64 i)) := by
  refine calls_of fun R H => ?_
  have S0 := Lib.hid (Stp.start h (by simp) H)
  have HI := h.vs.bd
  have HIB := Lib.hid (fun w => inodeBits_is h.vs.pl w)
  have HOK := Lib.hid (bits_ok h.vs).2
  have HW : Hid (∀ W, Calls Tryz.prog 43 #[.agg (inoL x).toArray, .agg #[.int .i64 0, .int .i64 0, .int .i64 0, .int .i64 0, .int .i64 0, .int .i64 0, .int .i64 0, .int .i64 0, .int .i64 0, .int .i64 0, .int .i64 0]] W fun e w' => e = .returned (inoV (Fs.withP x Ii.zero)) ∧ Below W.heap.size W w') := Lib.hid (fun W => withP_any x Ii.zero)
  unfold Fs.newM at S0
  have hI2 := HI.2.1
  clear h H HI
  unfold inoV
  go_enter Tryz.func14, Tryz.ntmps14
  have HGO := Lib.hid (fun W (hc : Ctx W B b s n I) => goesOn_any hc)
  go_wp2_with fail
  generalize hw : World.alloc _ _ = w1
  have S : Hid (Stp R B b n I [] w (fun (i : Int) e _ => e = .returned (.int .i64 i)) [(w.heap.size, inoL x)] s (Fs.andThen (Fs.rightM n I (Fs.withP x Ii.zero)) fun y => Fs.andThen (Fs.leastM I) fun i => Fs.andThen (Fs.setI i y) fun _ => Fs.andThen (Fs.markM 41 (i - 1) true) fun _ => Fs.ret i) w1) := Lib.hid (by
    rw [← hw]
    exact S0.out.alloc w.heap.size rfl (inoL x) _)
  clear hw S0
  go_wp2_with (first
    | (go_at_call 41; (with_reducible refine (HGO.out _ S.out.ctx).mono ?_); rintro e w2 ⟨rfl, rfl⟩)
    | (with_reducible refine wpList_load_rw inoT (S.out.get 0 _ rfl) rfl rfl (.tmp 3) rfl rfl ?_)
    | (go_at_call 43; (with_reducible refine (HW.out _).mono ?_); rintro e w3 ⟨rfl, hb⟩; replace S := Lib.hid (S.out.below hb); clear hb)
    | (go_at_call 42; (with_reducible refine (smustRight_any S.out.ctx (Fs.withP x Ii.zero)).mono ?_); intro e w4 hE; rcases S.out.bind hE with ⟨rfl, hR⟩ | ⟨y, s4, L4, _, rfl, S2⟩; (exact ⟨rfl, hR⟩); clear S hE; have S := Lib.hid S2; clear S2)
    | ((with_reducible refine wpList_store_rw (vs := inoL y) inoT (S.out.get 0 _ rfl) ?_ ?_ (inoL_one _) rfl (.tmp 3) (.tmp 13) rfl ?_ ?_ ?_); (exact rfl); (exact rfl); (exact rfl); (exact rfl); have S3 := Lib.hid (S.out.put 0 _ rfl (inoL y) rfl); clear S; have S := Lib.hid S3.out; clear S3)
    | (go_at_call 44; (with_reducible refine (sleast_any S.out.ctx).mono ?_); intro e w5 hE; rcases S.out.bind hE with ⟨rfl, hR⟩ | ⟨i, s5, L5, hi, rfl, S2⟩; (exact ⟨rfl, hR⟩); have hib := Fs.least_bd _ _ (tell_ok hi); clear S hE hi; have S := Lib.hid S2; clear S2)
    | (go_at_call 45; refine (sset_step S.out.ctx i y hib.1 (by omega)).mono ?_; intro e w6 hE; rcases S.out.bind hE with ⟨rfl, hR⟩ | ⟨_, s6, L6, _, rfl, S2⟩; (exact ⟨rfl, hR⟩); clear S hE; have S := Lib.hid S2; clear S2)
    | (with_reducible refine wpList_load_plan (S.out.row).plan rfl (.tmp 24) rfl rfl ?_)
    | (go_at_call 47; (with_reducible refine (HIB.out _).mono ?_); rintro e w7 ⟨rfl, hb⟩; replace S := Lib.hid (S.out.below hb); clear hb)
    | (go_at_call 48; (with_reducible refine (inodeBit_any i _ (by omega)).mono ?_); rintro e w8 ⟨rfl, rfl⟩)
    | (go_at_call 46; (with_reducible refine (smark_step S.out.ctx 41 (i - 1) true HOK.out).mono ?_); intro e w9 hE; rcases S.out.bind hE with ⟨rfl, hR⟩ | ⟨_, s9, L9, _, rfl, S2⟩; (exact ⟨rfl, hR⟩); clear S hE; have S := Lib.hid S2; clear S2))
  exact S.out.done rfl
set_option maxRecDepth 100000 in
set_option maxHeartbeats 2000000 in
theorem schange_step {w : World} {B : Nat} {b : Blk} {s : Sto} {n I : Int} (h : Ctx w B b s n I) (i : Int) (x : Ino) : Calls Tryz.prog 15 #[.pointer (some ⟨B, 0, none⟩), .int .i64 i, inoV x] w (Ends B b n I [] w s (Fs.changeM n I i x) fun _ e _ => e = .returned (.tuple #[])) := by
  refine calls_of fun R H => ?_
  have S0 := Lib.hid (Stp.start h (by simp) H)
  have HW : Hid (∀ W was, Calls Tryz.prog 43 #[.agg (inoL x).toArray, .agg (inoL was).toArray] W fun e w' => e = .returned (inoV (Fs.withP x was)) ∧ Below W.heap.size W w') := Lib.hid (fun W was => withP_any x was)
  unfold Fs.changeM at S0
  clear h H
  unfold inoV
  go_enter Tryz.func15, Tryz.ntmps15
  have HGO := Lib.hid (fun W (hc : Ctx W B b s n I) => goesOn_any hc)
  go_wp2_with fail
  generalize hw : World.alloc _ _ = w1
  have S : Hid (Stp R B b n I [] w (fun _ e _ => e = .returned (.tuple #[])) [(w.heap.size, inoL x)] s (Fs.andThen (Fs.tell (Fs.takenF I i)) fun was => Fs.andThen (Fs.rightM n I (Fs.withP x was)) fun y => Fs.setI i y) w1) := Lib.hid (by
    rw [← hw]
    exact S0.out.alloc w.heap.size rfl (inoL x) _)
  clear hw S0
  go_wp2_with (first
    | (go_at_call 41; (with_reducible refine (HGO.out _ S.out.ctx).mono ?_); rintro e w2 ⟨rfl, rfl⟩)
    | (go_at_call 49; (with_reducible refine (smustTaken_any S.out.ctx i).mono ?_); intro e w4 hE; rcases S.out.bind hE with ⟨rfl, hR⟩ | ⟨was, s4, L4, hi, rfl, S2⟩; (exact ⟨rfl, hR⟩); have hib := taken_in (tell_ok hi); clear S hE hi; have S := Lib.hid S2; clear S2)
    | ((with_reducible refine wpList_store_newrow (vs := inoL was) inoT ?_ (inoL_one _) rfl (.tmp 6) (.tmp 12) rfl rfl ?_ ?_ ?_); (exact rfl); (exact rfl); (exact rfl); intro W4 hP hB2 hz2; replace S := Lib.hid (S.out.made hP hB2 hz2); clear hP hB2 hz2)
    | (with_reducible refine wpList_load_rw inoT (S.out.get 0 _ rfl) rfl rfl (.tmp 5) rfl rfl ?_)
    | (with_reducible refine wpList_load_rw inoT (S.out.get 1 _ rfl) rfl rfl (.tmp 6) rfl rfl ?_)
    | (go_at_call 43; (with_reducible refine (HW.out _ _).mono ?_); rintro e w3 ⟨rfl, hb⟩; replace S := Lib.hid (S.out.below hb); clear hb)
    | (go_at_call 42; (with_reducible refine (smustRight_any S.out.ctx (Fs.withP x was)).mono ?_); intro e w4 hE; rcases S.out.bind hE with ⟨rfl, hR⟩ | ⟨y, s4, L4, _, rfl, S2⟩; (exact ⟨rfl, hR⟩); clear S hE; have S := Lib.hid S2; clear S2)
    | (go_at_call 45; refine (sset_step S.out.ctx i y hib.1 hib.2).mono ?_; intro e w6 hE; rcases S.out.last hE with ⟨rfl, hR⟩ | ⟨_, s6, L6, _, rfl, S2⟩; (exact ⟨rfl, hR⟩); clear S hE; have S := Lib.hid S2; clear S2))
  go_end0
  exact S.out.done rfl
set_option maxRecDepth 100000 in
set_option maxHeartbeats 2000000 in
theorem srelease_step {w : World} {B : Nat} {b : Blk} {s : Sto} {n I : Int} (h : Ctx w B b s n I) (i : Int) : Calls Tryz.prog 16 #[.pointer (some ⟨B, 0, none⟩), .int .i64 i] w (Ends B b n I [] w s (Fs.releaseM n I i) fun _ e _ => e = .returned (.tuple #[])) := by
  refine calls_of fun R H => ?_
  have S := Lib.hid (Stp.start h (by simp) H)
  have HI := h.vs.bd
  have hI2 := HI.2.1
  have HIB := Lib.hid (fun w => inodeBits_is h.vs.pl w)
  have HOK := Lib.hid (bits_ok h.vs).2
  have HSE : Hid (∀ W s', Ctx W B b s' n I → 1 ≤ i → i ≤ I → Calls Tryz.prog 45 #[.pointer (some ⟨B, 0, none⟩), .int .i64 i, .agg #[.int .i64 0, .int .i64 0, .int .i64 0, .int .i64 0, .int .i64 0, .int .i64 0, .int .i64 0, .int .i64 0, .int .i64 0, .int .i64 0, .int .i64 0]] W (Ends B b n I [] W s' (Fs.setI i Ii.zero) fun _ e _ => e = .returned (.tuple #[]))) := Lib.hid (fun W s' hc h1 h2 => sset_step hc i Ii.zero h1 h2)
  have HGO := Lib.hid (fun W (hc : Ctx W B b s n I) => goesOn_any hc)
  unfold Fs.releaseM at S
  clear h H HI
  go_enter Tryz.func16, Tryz.ntmps16
  go_wp2_with (first
    | (go_at_call 41; (with_reducible refine (HGO.out _ S.out.ctx).mono ?_); rintro e w2 ⟨rfl, rfl⟩)
    | (go_at_call 49; (with_reducible refine (smustTaken_any S.out.ctx i).mono ?_); intro e w4 hE; rcases S.out.bind hE with ⟨rfl, hR⟩ | ⟨was, s4, L4, hi, rfl, S2⟩; (exact ⟨rfl, hR⟩); have hib := taken_in (tell_ok hi); clear S hE hi; have S := Lib.hid S2; clear S2)
    | (go_at_call 50; (with_reducible refine (scutFile_step S.out.ctx was 0 (by decide)).mono ?_); intro e w5 hE; rcases S.out.bind hE with ⟨rfl, hR⟩ | ⟨y, s5, L5, _, rfl, S2⟩; (exact ⟨rfl, hR⟩); clear S hE; have S := Lib.hid S2; clear S2)
    | (go_at_call 45; (with_reducible refine (HSE.out _ _ S.out.ctx hib.1 hib.2).mono ?_); intro e w6 hE; rcases S.out.bind hE with ⟨rfl, hR⟩ | ⟨_, s6, L6, _, rfl, S2⟩; (exact ⟨rfl, hR⟩); clear S hE; have S := Lib.hid S2; clear S2)
    | (with_reducible refine wpList_load_plan (S.out.row).plan rfl (.tmp 20) rfl rfl ?_)
    | (go_at_call 47; (with_reducible refine (HIB.out _).mono ?_); rintro e w7 ⟨rfl, hb⟩; replace S := Lib.hid (S.out.below hb); clear hb)
    | (go_at_call 48; (with_reducible refine (inodeBit_any i _ (by omega)).mono ?_); rintro e w8 ⟨rfl, rfl⟩)
    | (go_at_call 46; (with_reducible refine (smark_step S.out.ctx 41 (i - 1) false HOK.out).mono ?_); intro e w9 hE; rcases S.out.last hE with ⟨rfl, hR⟩ | ⟨_, s9, L9, _, rfl, S2⟩; (exact ⟨rfl, hR⟩); clear S hE; have S := Lib.hid S2; clear S2))
  go_end0
  exact S.out.done rfl
end Go.Proofs.YtncmihikpcdgoaaGreat

namespace Go.Proofs.YtncmihikpcdgoaaGreat
open Go.RowKit Go.Maps
open Dk (zeros zeros_length)
open Ii (Ino)
/-- a call in a region that draws its order: ahead of it, and behind it -/
def KS {γ α : Type} (R : Ending → World → Prop) (B : Nat) (b : Blk) (n I : Int) (Ls : List Nat) (w0 : World) (K : α → Ending → World → Prop) (l : List (Nat × List Value)) (s : Sto) (m1 : Fs.M γ) (f : γ → Fs.M α) : Option γ → World → Prop
  | none, W => Stp R B b n I Ls w0 K l s (Fs.andThen m1 f) W
  | some y, W => ∃ s', Stp R B b n I Ls w0 K l s' (f y) W
section
variable {γ α : Type} {R : Ending → World → Prop} {B : Nat} {b : Blk} {n I : Int} {Ls : List Nat} {w0 : World} {K : α → Ending → World → Prop} {l : List (Nat × List Value)} {s : Sto} {m1 : Fs.M γ} {f : γ → Fs.M α} {W W' : World}
theorem KS.lo : ∀ {k : Option γ}, KS R B b n I Ls w0 K l s m1 f k W → Lo (b.t :: Ls) w0 l W
  | none, h => Stp.lo h
  | some _, ⟨_, h⟩ => Stp.lo h
theorem KS.below : ∀ {k : Option γ}, KS R B b n I Ls w0 K l s m1 f k W → Below W.heap.size W W' → KS R B b n I Ls w0 K l s m1 f k W'
  | none, h, hb => Stp.below h hb
  | some _, ⟨s', h⟩, hb => ⟨s', Stp.below h hb⟩
theorem KS.none (h : KS R B b n I Ls w0 K l s m1 f none W) : Stp R B b n I Ls w0 K l s (Fs.andThen m1 f) W := h
theorem KS.some {y : γ} (h : KS R B b n I Ls w0 K l s m1 f (some y) W) : ∃ s', Stp R B b n I Ls w0 K l s' (f y) W := h
end
theorem pgs_bd {z : Int} (h1 : 0 ≤ z) (h2 : z ≤ 67840) : 0 ≤ Sp.pgs z ∧ Sp.pgs z ≤ 100000 := by
  unfold Sp.pgs
  split <;> omega
set_option maxRecDepth 100000 in
set_option maxHeartbeats 2000000 in
theorem strunc_step {w : World} {B : Nat} {b : Blk} {s : Sto} {n I : Int} (h : Ctx w B b s n I) (i z : Int) : Calls Tryz.prog 18 #[.pointer (some ⟨B, 0, none⟩), .int .i64 i, .int .i64 z] w (Ends B b n I [] w s (Fs.truncM n I i z) fun _ e _ => e = .returned (.tuple #[])) := by
  refine calls_of fun R H => ?_
  have S := Lib.hid (Stp.start h (by simp) H)
  have HGO := Lib.hid (fun W (hc : Ctx W B b s n I) => goesOn_any hc)
  unfold Fs.truncM at S
  clear h H
  go_enter Tryz.func18, Tryz.ntmps18
  go_wp2_with (go_at_call 41; (with_reducible refine (HGO.out _ S.out.ctx).mono ?_); rintro e w2 ⟨rfl, rfl⟩)
  refine (smustTaken_any S.out.ctx i).mono ?_
  intro e w4 hE
  rcases S.out.bind hE with ⟨rfl, hR⟩ | ⟨x, s4, L4, hi, rfl, S2⟩
  · exact ⟨rfl, hR⟩
  have hib := taken_in (tell_ok hi)
  have S := Lib.hid S2
  clear hE hi S2
  by_cases c1 : z < 0
  · have S5 := Lib.hid (S.out.of (congrFun (if_pos c1) _))
    clear S
    go_wp2_with (first
      | ((with_reducible refine wpList_store_newrow (vs := inoL x) inoT ?_ (inoL_one _) rfl (.tmp 6) (.tmp 12) rfl rfl ?_ ?_ ?_); (exact rfl); (exact rfl); (exact rfl); intro W4 hP hB2 hz2; have S := Lib.hid (S5.out.made hP hB2 hz2); clear hP hB2 hz2 S5)
      | (go_at_call 19; (with_reducible refine (fail_any S.out.ctx 22 (by decide)).mono ?_); rintro e w5 ⟨rfl, hB, hO⟩))
    exact ⟨rfl, S.out.fails (Fails.err rfl) (by decide) hB hO⟩
  · by_cases c2 : 67840 < z
    · have S5 := Lib.hid (S.out.of (m' := Fs.fail 27) (by rw [if_neg c1, if_pos c2]))
      clear S
      go_wp2_with (first
        | ((with_reducible refine wpList_store_newrow (vs := inoL x) inoT ?_ (inoL_one _) rfl (.tmp 6) (.tmp 12) rfl rfl ?_ ?_ ?_); (exact rfl); (exact rfl); (exact rfl); intro W4 hP hB2 hz2; have S := Lib.hid (S5.out.made hP hB2 hz2); clear hP hB2 hz2 S5)
        | (go_at_call 19; (with_reducible refine (fail_any S.out.ctx 27 (by decide)).mono ?_); rintro e w5 ⟨rfl, hB, hO⟩))
      exact ⟨rfl, S.out.fails (Fails.err rfl) (by decide) hB hO⟩
    · have S5 := Lib.hid (S.out.of (m' := Fs.andThen (Fs.cutFile n I x (Sp.pgs z)) fun y => Fs.andThen (Fs.blankM n I y z) fun _ => Fs.setI i { y with s := z }) (by rw [if_neg c1, if_neg c2]))
      clear S
      obtain ⟨sz, rfl⟩ := Int.eq_ofNat_of_zero_le (show 0 ≤ z by omega)
      have hsz : sz ≤ 67840 := by omega
      have HPG := Lib.hid (fun W => wpages_any (sz : Int) W (by omega))
      have HPB := Lib.hid (pgs_bd (z := (sz : Int)) (by omega) (by omega))
      generalize hpz : Sp.pgs (sz : Int) = pz at HPG HPB S5
      clear hpz
      go_wp2_with ((with_reducible refine wpList_store_newrow (vs := inoL x) inoT ?_ (inoL_one _) rfl (.tmp 6) (.tmp 12) rfl rfl ?_ ?_ ?_); (exact rfl); (exact rfl); (exact rfl); intro W4 hP hB2 hz2; have S := Lib.hid (S5.out.made hP hB2 hz2); clear hP hB2 hz2 S5)
      generalize w4.heap.size = X at S ⊢
      refine wp_region_linp (SO (fun (k : Option Ino) W => KS R B b n I [] w (fun _ e _ => e = .returned (.tuple #[])) [(X, inoL x)] s4 (Fs.cutFile n I x pz) (fun y => Fs.andThen (Fs.blankM n I y (sz : Int)) fun _ => Fs.setI i { y with s := (sz : Int) }) k W)) (fun ch W => ch = [failE B] ∧ R (.panicked [failE B]) W) (fun i => i == 4 || i == 5) (fun i => [.pointer (some ⟨B, 0, none⟩), .agg (inoL x).toArray, .int .i64 (sz : Int), .int .i64 pz].getD i undef) (some none) (by kernel_rfl) (by kernel_rfl) (fun ch a' W hd hh => ?_) S.out.drew ?_
      · exact ⟨hd, by obtain ⟨rfl, hR⟩ := hh; exact hR⟩
      refine linp_step (i := 0) (d := some 23) (v := (.pointer (some ⟨B, 0, none⟩))) rfl rfl (by kernel_rfl) (by kernel_rfl) rfl rfl (ord_value (by kernel_rfl) ?_) ?_
      · ((intro _ _ _; go_simp) <;> kernel_rfl)
      try simp only [Act.put, List.setIfInBounds_toArray, List.set_cons_zero, List.set_cons_succ]
      refine linp_step (i := 1) (d := some 24) (v := (.agg (inoL x).toArray)) rfl rfl (by kernel_rfl) (by kernel_rfl) rfl rfl (ord_mid loads_ino (by kernel_rfl) (.tmp 6) rfl rfl (SO.all (fun _ W hS => (hS.lo.get 0 _ rfl).range))) ?_
      try simp only [Act.put, List.setIfInBounds_toArray, List.set_cons_zero, List.set_cons_succ]
      refine linp_step (i := 2) (d := some 25) (v := (.int .i64 (sz : Int))) rfl rfl (by kernel_rfl) (by kernel_rfl) rfl rfl (ord_value (by kernel_rfl) ?_) ?_
      · ((intro _ _ _; go_simp) <;> kernel_rfl)
      try simp only [Act.put, List.setIfInBounds_toArray, List.set_cons_zero, List.set_cons_succ]
      refine linp_step (i := 3) (d := some 26) (v := (.int .i64 pz)) rfl rfl (by kernel_rfl) (by kernel_rfl) rfl rfl (ord_call (f := 56) (args := #[.int .i64 (sz : Int)]) (by kernel_rfl) ?_ (fun k W hS => (HPG.out W).mono fun e w' hh => ⟨hh.1, hh.2 ▸ hS⟩)) ?_
      · (intro _; go_simp)
      try simp only [Act.put, List.setIfInBounds_toArray, List.set_cons_zero, List.set_cons_succ]
      refine linp_turn (i := 4) (d := some 27) (fun u k => ∃ y, u = inoV y ∧ k = some (some y)) rfl rfl (by kernel_rfl) (by kernel_rfl) rfl (by kernel_rfl) ⟨_, _, x, rfl, rfl⟩ (by kernel_rfl) (gives_all (f := 50) (args := #[.pointer (some ⟨B, 0, none⟩), .agg (inoL x).toArray, .int .i64 pz]) ?_ (fun W hS => (scutFile_step (KS.none (SO.some hS)).ctx x pz HPB.out).mono fun e w' hE => by
        rcases Stp.bind (KS.none (SO.some hS)) hE with ⟨rfl, hR⟩ | ⟨y, s', L', _, rfl, S2⟩
        · exact Or.inr ⟨_, rfl, rfl, hR⟩
        · exact Or.inl ⟨_, rfl, some (some y), ⟨y, rfl, rfl⟩, ⟨s', S2⟩⟩)) ?_
      · (intro _; go_simp)
      rintro _ _ ⟨y, rfl, rfl⟩
      try simp only [Act.put, List.setIfInBounds_toArray, List.set_cons_zero, List.set_cons_succ]
      refine linp_last (i := 5) (d := none) rfl rfl (by kernel_rfl) rfl (by kernel_rfl) (by kernel_rfl) fun W hS => givesP_of (gives_store_row inoT ((KS.lo (SO.some hS)).get 0 _ rfl) rfl rfl (inoL_one y) (.tmp 6) (.tmp 27) rfl rfl rfl ?_)
      obtain ⟨s5, S6⟩ := KS.some (SO.some hS)
      have S7 := Lib.hid (S6.put 0 _ rfl (inoL y) rfl)
      clear S S6 hS
      try simp only [Act.put, List.setIfInBounds_toArray, List.set_cons_zero, List.set_cons_succ]
      have S := Lib.hid S7.out
      clear S7
      generalize World.setCells _ _ _ _ = w6 at S ⊢
      go_wp2_with (first
        | (with_reducible refine wpList_load_rw inoT (S.out.get 0 _ rfl) rfl rfl (.tmp 6) rfl rfl ?_)
        | (go_at_call 57; refine (sblank_step S.out.ctx y sz hsz).mono ?_; intro e w7 hE; rcases S.out.bind hE with ⟨rfl, hR⟩ | ⟨_, s7, L7, _, rfl, S2⟩; (exact ⟨rfl, hR⟩); clear S hE; have S := Lib.hid S2; clear S2; have cc := (S.out.get 0 _ rfl).cell 4 _ rfl; have ff := (S.out.get 0 _ rfl).frozen 4 (show 4 < 11 by decide))
        | (have S3 := Lib.hid (S.out.one 0 _ rfl 4 (.int .i64 (sz : Int)) (inoL { y with s := (sz : Int) }) (show 4 + 1 ≤ 11 by decide) rfl); (with_reducible refine wpList_load_rw inoT (S3.out.get 0 _ rfl) rfl rfl (.tmp 6) rfl rfl ?_); clear S cc ff; have S := Lib.hid S3.out; clear S3)
        | (go_at_call 45; refine (sset_step S.out.ctx i { y with s := (sz : Int) } hib.1 hib.2).mono ?_; intro e w8 hE; rcases S.out.last hE with ⟨rfl, hR⟩ | ⟨_, s8, L8, _, rfl, S2⟩; (exact ⟨rfl, hR⟩); clear S hE; have S := Lib.hid S2; clear S2))
      go_end0
      exact S.out.done rfl
end Go.Proofs.YtncmihikpcdgoaaGreat

namespace Go.Proofs.YtncmihikpcdgoaaGreat
open Go.RowKit Go.Maps
open Dk (zeros zeros_length)
open Ii (Ino)
section
variable {γ α : Type} {R : Ending → World → Prop} {B : Nat} {b : Blk} {n I : Int} {Ls : List Nat} {w0 w w' : World} {K : α → Ending → World → Prop} {l : List (Nat × List Value)} {s : Sto}
/-- a call that writes one of the rows -/
theorem Stp.bindX {m1 : Fs.M γ} {f : γ → Fs.M α} {K1 : γ → Ending → World → Prop} {e : Ending} {X : Nat} {us : List Value} (h : Stp R B b n I Ls w0 K l s (Fs.andThen m1 f) w) (k : Nat) (hx : l[k]? = some (X, us)) (vs : γ → List Value) (hE : Ends B b n I [X] w s m1 K1 e w') (hK : ∀ a, K1 a e w' → RowAt w' X (vs a)) :
    (e = .panicked [failE B] ∧ R (.panicked [failE B]) w') ∨ ∃ a s' L, m1 (nv s) = (.ok a, nv s', L) ∧ K1 a e w' ∧ Stp R B b n I Ls w0 K (l.set k (X, vs a)) s' (f a) w' ∧ Only [b.t, X] w w' := by
  obtain ⟨hX1, hX2, hX3⟩ := h.lo.row (X, us) (List.mem_of_getElem? hx)
  have hX2 : w0.heap.size ≤ X := hX2
  rcases hE with ⟨a, s', L, E, G, C, hK1, O⟩ | ⟨er, F, h0, Br, rfl, O⟩
  · refine Or.inr ⟨a, s', L, E, hK1, ⟨⟨fun y hy => ?_, ?_, ?_, h.lo.low⟩, C, h.low, fun e' w'' hE => h.left e' w'' (hE.next E G)⟩, O⟩
    · obtain ⟨hk, hke⟩ := List.getElem?_eq_some_iff.1 hx
      obtain ⟨j, hj, rfl⟩ := List.getElem_of_mem hy
      rw [List.length_set] at hj
      rw [List.getElem_set]
      by_cases q : k = j
      · rw [if_pos q]
        exact ⟨hK a hK1, hX2, Nat.lt_of_lt_of_le hX3 O.size⟩
      · rw [if_neg q]
        obtain ⟨h1, h2, h3⟩ := h.lo.row l[j] (List.getElem_mem hj)
        refine ⟨h1.block (O.block _ h3 ?_), h2, Nat.lt_of_lt_of_le h3 O.size⟩
        have hn := List.pairwise_iff_getElem.1 h.lo.ne
        have e1 : (l.map (·.1))[k]'(by simpa using hk) = X := by
          simp only [List.getElem_map]
          rw [hke]
        have e2 : (l.map (·.1))[j]'(by simpa using hj) = l[j].1 := by simp only [List.getElem_map]
        simp only [List.mem_cons, List.not_mem_nil, or_false]
        rintro (q1 | q1)
        · have := h.low b.t (List.mem_cons_of_mem _ b.t_mem)
          omega
        · rcases Nat.lt_or_ge k j with c | c
          · exact hn k j _ _ c (by rw [e1, e2]; exact q1.symm)
          · exact hn j k _ _ (by omega) (by rw [e1, e2]; exact q1)
    · obtain ⟨hk, hke⟩ := List.getElem?_eq_some_iff.1 hx
      have : (l.set k (X, vs a)).map (·.1) = l.map (·.1) := by
        rw [List.map_set]
        apply List.ext_getElem
        · simp
        · intro j h1 h2
          rw [List.getElem_set]
          split
          · rename_i e; subst e; simp [hke]
          · rfl
      rw [this]; exact h.lo.ne
    · exact h.lo.only.via O (fun i hi => by
        simp only [List.mem_cons, List.not_mem_nil, or_false] at hi
        rcases hi with rfl | rfl
        · exact Or.inl (List.mem_cons_self ..)
        · exact Or.inr hX2)
  · refine Or.inl ⟨rfl, h.left _ _ (Ends.broke F h0 Br (h.only O (fun i hi => ?_)))⟩
    simp only [List.mem_cons, List.not_mem_nil, or_false] at hi
    rcases hi with rfl | rfl | rfl
    · exact Or.inl (List.mem_cons_self ..)
    · exact Or.inl (List.mem_cons_of_mem _ (List.mem_cons_self ..))
    · exact Or.inr hX2
end
namespace Fs
theorem andThen_split {α β : Type} {m : M α} {f : α → M β} {V V' : View} {L : List Nat} {b : β} (h : andThen m f V = (.ok b, V', L)) : ∃ a V1 L1 L2, m V = (.ok a, V1, L1) ∧ f a V1 = (.ok b, V', L2) ∧ L = L1 ++ L2 := by
  unfold andThen at h
  rcases hm : m V with ⟨r, V1, L1⟩
  rw [hm] at h
  cases r with
  | error e => simp only at h; injection h with h _; cases h
  | ok a =>
    simp only at h
    injection h with h1 h2
    injection h2 with h2 h3
    refine ⟨a, V1, L1, (f a V1).2.2, rfl, ?_, h3.symm⟩
    rw [← h1, ← h2]
theorem go_ne {n I : Int} (hD : ∀ m, isData n I m → m ≠ 0) : ∀ (ks : List Int) (m : Int) {V V' : View} {t : Int} {L : List Nat}, m ≠ 0 → goR n I ks m V = (.ok t, V', L) → t ≠ 0
  | [], m, V, V', t, L, hm, h => by
    rw [goR] at h
    unfold ret at h
    injection h with h _
    injection h with h
    rw [← h]; exact hm
  | k :: ks, m, V, V', t, L, hm, h => by
    rw [goR] at h
    obtain ⟨p, V1, L1, L2, _, h2, _⟩ := andThen_split h
    split at h2
    · obtain ⟨t1, V2, L3, L4, h3, h4, _⟩ := andThen_split h2
      obtain ⟨_, V3, L5, L6, _, h6, _⟩ := andThen_split h4
      exact go_ne hD ks t1 (hD _ (take_ok h3)) h6
    · exact go_ne hD ks _ (by assumption) h2
theorem reach_ne {n I : Int} (hD : ∀ m, isData n I m → m ≠ 0) {x : Ino} {i : Int} {V V' : View} {z : Ino × Int} {L : List Nat} (h : reachM n I x i V = (.ok z, V', L)) : z.2 ≠ 0 := by
  unfold reachM at h
  split at h
  · obtain ⟨m, V1, L1, L2, h1, h2, _⟩ := andThen_split h
    obtain ⟨t, V2, L3, L4, h3, h4, _⟩ := andThen_split h2
    unfold ret at h4
    injection h4 with h4 _
    injection h4 with h4
    rw [← h4]
    exact go_ne hD _ m (hD _ (take_ok h1)) h3
  · obtain ⟨t, V2, L3, L4, h3, h4, _⟩ := andThen_split h
    unfold ret at h4
    injection h4 with h4 _
    injection h4 with h4
    rw [← h4]
    exact go_ne hD _ _ (by assumption) h3
theorem pieces_in : ∀ (n off : Nat), ∀ c ∈ pieces off n, c.idx * 64 + c.at1 + c.size ≤ off + n := by
  intro n
  induction n using Nat.strongRecOn with
  | ind n ih =>
    intro off c hc
    by_cases h : n = 0
    · subst h; cases hc
    · rw [pieces_step off n h] at hc
      have h64 : off % 64 < 64 := Nat.mod_lt _ (by omega)
      rcases List.mem_cons.1 hc with rfl | hc
      · simp only; omega
      · have := ih (n - min n (64 - off % 64)) (by omega) _ c hc
        omega
end Fs
theorem okB_of {i : Int} (h1 : 0 ≤ i) (h2 : i < 1060) : Sp.okB i = true := by
  rcases Sp.kinds i with c | ⟨c1, c2⟩ | ⟨c1, c2⟩ | ⟨c1, c2⟩
  · omega
  · exact (Sp.page0 c1 c2).1
  · exact (Sp.page1 c1 c2).1
  · exact (Sp.page2 c1 c2).1
theorem str_take (t : List UInt8) (k : Nat) : (strOf t).extract 0 k = strOf (t.take k) := by
  unfold strOf
  apply ByteArray.ext
  apply Array.ext'
  simp
theorem str_drop (t : List UInt8) (k c : Nat) (hc : t.length ≤ c) : (strOf t).extract k c = strOf (t.drop k) := by
  unfold strOf
  apply ByteArray.ext
  apply Array.ext'
  simp
  rw [List.take_of_length_le (by simp; omega)]
theorem Fs.wloop_cons (n I : Int) (c : Fs.Pc) (cs : List Fs.Pc) (x : Ino) (t : List UInt8) {β : Type} (g : Ino → Fs.M β) : Fs.andThen (Fs.wloop n I (c :: cs) x t) g = Fs.andThen (Fs.reachM n I x c.idx) fun z =>
    Fs.andThen (Fs.tell (Fs.dataF n I z.2)) fun p => Fs.andThen (Fs.wr z.2.toNat (Pg.setTextN p c.at1 (t.take c.size))) fun _ => Fs.andThen (Fs.wloop n I cs z.1 (t.drop c.size)) g := by
  rw [Fs.wloop, Fs.andThen_assoc]
  congr 1
  funext z
  rw [Fs.andThen_assoc]
  congr 1
  funext p
  rw [Fs.andThen_assoc]
end Go.Proofs.YtncmihikpcdgoaaGreat
