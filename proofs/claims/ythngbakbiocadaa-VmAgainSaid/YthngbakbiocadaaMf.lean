/-
  The document's Put of a new key, where there is room.
-/
import Derived.Test.YthngbakbiocadaaMe
import Derived.BigQuiet
import Derived.Test.YthngbakbiocadaaMd

namespace Go.Proofs.Ythngbakbiocadaa
set_option maxRecDepth 100000
open Go.RowKit Go.Maps

set_option maxRecDepth 100000 in
set_option maxHeartbeats 4000000 in
theorem rput_hash_room (base b : Nat) (sv : Value) (room : Nat) (l : List Z.En) (x : Z.En) (hp : Z.pos x.key l = none) (hr : l.length < room) (hr1 : 1 ≤ room) (w : World) (h : MpAt 59 (.bool false) w base b sv room l) (hn : l.length ≤ 1000) (hbase : base ≤ w.heap.size) :
    Calls Try.prog 26 #[.pointer (some ⟨b, 0, none⟩), .int .i64 x.key, .agg #[.int .i64 x.a, .int .i64 x.b, .int .i64 x.c, .int .i64 x.d]] w fun e w' => e = .returned (.int .i64 0) ∧ ∃ sv', MpTo 59 (.bool false) w base b sv room (l ++ [x]) w' sv' := by
  have S0 : Hid (InS 59 (.bool false) w base b sv room l w.heap.size (wordsL x) (w.alloc (.cells #[.int .i64 x.a, .int .i64 x.b, .int .i64 x.c, .int .i64 x.d] 57)) sv) := Lib.hid ⟨MpTo.self h ((Below.refl _ _).alloc (Nat.le_refl _) _), rowAt_new w (wordsL x) _, by rw [wordsL_length]; omega, fun hf => by (have := (h.foot hf).2; omega), Nat.le_refl _⟩
  have HF := Lib.hid (fun w => rat_any (.bool false) base b sv room l x.key w)
  have HBS := Lib.hid hbase
  have HL := Lib.hid hn
  have HP : Hid (Z.posI x.key l = -1) := Lib.hid (by unfold Z.posI; rw [hp])
  have hcmp : ¬ ((l.length : Int) = (room : Int)) := by omega
  have hcmpd : decide ((l.length : Int) = (room : Int)) = false := decide_eq_false hcmp
  have hcmpb : ((l.length : Int) == (room : Int)) = false := by simp; omega
  obtain ⟨A, c, rfl⟩ := owns_slice h.own
  have H0 : Hid (0 < l.length ∨ l.length < room) := Lib.hid (by omega)
  have HRM := Lib.hid hr
  have H1 := Lib.hid hr1
  clear h hp hbase hn hr hr1
  go_enter Try.func26, Try.ntmps26
  go_upto_region 1 with fail
  generalize w.alloc (.cells #[.int .i64 x.a, .int .i64 x.b, .int .i64 x.c, .int .i64 x.d] 57) = W1 at S0 ⊢
  have hc0 : W1.cell? ⟨b, 0, none⟩ = some (.bool false) := S0.out.way.at_.row.cell 0 _ rfl
  have hc1 : W1.cell? ⟨b, 1, none⟩ = some (.int .i64 (room : Int)) := S0.out.way.at_.row.cell 1 _ rfl
  have hc2 : W1.cell? ⟨b, 2, none⟩ = some (.slice A l.length c) := S0.out.way.at_.row.cell 2 _ rfl
  go_upto_region 8 with (go_at_call 36; refine (HF.out _ S0.out.way.at_ HL.out).mono ?_; rw [HP.out]; rintro e w2 ⟨rfl, rfl⟩)
  go_quiet (fail)
  have S2 := Lib.hid (S0.out.call (W' := W1.drewN nq) (below_drewN W1 nq))
  clear hc0 hc1 hc2 S0
  generalize W1.drewN nq = W2 at S2 ⊢
  have hc1 : W2.cell? ⟨b, 1, none⟩ = some (.int .i64 (room : Int)) := S2.out.way.at_.row.cell 1 _ rfl
  have hc2 : W2.cell? ⟨b, 2, none⟩ = some (.slice A l.length c) := S2.out.way.at_.row.cell 2 _ rfl
  go_upto_region 10 with fail
  go_quiet (fail)
  go_upto_region 12 with fail
  clear hc1 hc2 hcmp hcmpb hcmpd
  have S9 := Lib.hid (S2.out.call (W' := W2.drewN nq) (below_drewN W2 nq))
  have HLX := HL
  obtain ⟨wx, hwx⟩ : ∃ wx, wx = (W2.drewN nq).drew := ⟨_, rfl⟩
  have S1 := Lib.hid (S9.out.call (Below.refl _ _).drew)
  have hdr : Below wx.heap.size wx (W2.drewN nq).drew := by rw [hwx]; exact Below.refl _ _
  rw [← hwx] at S1
  have HDR := Lib.hid hdr
  have HM := Lib.hid S1.out.way.at_
  have HR := Lib.hid S1.out.row
  have HFAR := Lib.hid S1.out.far
  have HBW : Hid (base ≤ wx.heap.size) := Lib.hid (Nat.le_trans HBS.out S1.out.way.but.size)
  generalize w.heap.size = B at S1 HR HFAR ⊢
  clear hwx hdr
  refine wp_region_linm (RkS (.bool false) wx base b (.slice A l.length c) room l (l ++ [x]) x) (rkMay [5]) (fun i => i == 1 || i == 6 || i == 10 || i == 11 || i == 14) (fun qi => [(.pointer (some ⟨b, 0, none⟩)), undef, (.pointer (some ⟨b, 0, none⟩)), (.pointer (some ⟨b, 0, none⟩)), .pointer (some ⟨b, 2, none⟩), (.slice A l.length c), undef, .int .i64 x.key, .agg (wordsL x).toArray, .agg (enL x).toArray, undef, undef, (.pointer (some ⟨b, 0, none⟩)), .pointer (some ⟨b, 2, none⟩), undef].getD qi undef) (RK.p none none) (by kernel_rfl) (by kernel_rfl) (⟨HDR.out, fun v xs h => (by cases h), fun g h => (by cases h)⟩) (fun _ => rfl) ?_
  refine linm_step (i := 0) (d := some 89) (v := (.pointer (some ⟨b, 0, none⟩))) rfl rfl (by kernel_rfl) (by kernel_rfl) rfl rfl (ordm_value (by kernel_rfl) ?_) ?_
  · (intro _ w' _ _; go_simp)
  (try simp only [Act.put, List.setIfInBounds_toArray, List.set_cons_zero, List.set_cons_succ])
  refine linm_step (i := 2) (d := some 91) (v := (.pointer (some ⟨b, 0, none⟩))) rfl rfl (by kernel_rfl) (by kernel_rfl) rfl rfl (ordm_value (by kernel_rfl) ?_) ?_
  · (intro _ w' _ _; go_simp)
  (try simp only [Act.put, List.setIfInBounds_toArray, List.set_cons_zero, List.set_cons_succ])
  refine linm_step (i := 3) (d := some 92) (v := (.pointer (some ⟨b, 0, none⟩))) rfl rfl (by kernel_rfl) (by kernel_rfl) rfl rfl (ordm_value (by kernel_rfl) ?_) ?_
  · (intro _ w' _ _; go_simp)
  (try simp only [Act.put, List.setIfInBounds_toArray, List.set_cons_zero, List.set_cons_succ])
  refine linm_step (i := 4) (d := some 93) (v := .pointer (some ⟨b, 2, none⟩)) rfl rfl (by kernel_rfl) (by kernel_rfl) rfl rfl (ordm_value (by kernel_rfl) ?_) ?_
  · (intro _ w' _ _; go_simp)
  (try simp only [Act.put, List.setIfInBounds_toArray, List.set_cons_zero, List.set_cons_succ])
  refine linm_step (i := 5) (d := some 94) (v := (.slice A l.length c)) rfl rfl (by kernel_rfl) (by kernel_rfl) rfl rfl (ordm_value (by kernel_rfl) (fun s w' hm hS => rk_load HM.out (L := [5]) (k := 5) (by simp) hm hS (.tmp 93) rfl rfl)) ?_
  (try simp only [Act.put, List.setIfInBounds_toArray, List.set_cons_zero, List.set_cons_succ])
  refine linm_step (i := 7) (d := some 96) (v := .int .i64 x.key) rfl rfl (by kernel_rfl) (by kernel_rfl) rfl rfl (ordm_value (by kernel_rfl) ?_) ?_
  · (intro _ w' _ _; go_simp)
  (try simp only [Act.put, List.setIfInBounds_toArray, List.set_cons_zero, List.set_cons_succ])
  refine linm_step (i := 8) (d := some 97) (v := .agg (wordsL x).toArray) rfl rfl (by kernel_rfl) (by kernel_rfl) rfl rfl (ordm_value (by kernel_rfl) (fun s w' _ hS => run_ld_row rvalT (RkS.other HR.out HFAR.out hS) (wordsL_length x) (.tmp 5) rfl rfl)) ?_
  (try simp only [Act.put, List.setIfInBounds_toArray, List.set_cons_zero, List.set_cons_succ])
  refine linm_step (i := 9) (d := some 98) (v := .agg (enL x).toArray) rfl rfl (by kernel_rfl) (by kernel_rfl) rfl rfl (ordm_value (by kernel_rfl) ?_) ?_
  · (intro _ w' _ _; unfold enL wordsL; go_simp)
  (try simp only [Act.put, List.setIfInBounds_toArray, List.set_cons_zero, List.set_cons_succ])
  refine linm_fork2 1 10 (di := some 90) (dj := some 99) (fun u s => s = RK.p (some (u, [])) none) (fun u s => ∃ g, u = .slice (some ⟨g, 0, none⟩) 1 1 ∧ s = RK.p none (some g)) (by kernel_rfl) (by decide) rfl rfl rfl rfl rfl rfl (rkMay_no (fun u s' hu => ⟨_, _, hu⟩)) (rkMay_no (fun u s' hu => by obtain ⟨g, _, h⟩ := hu; exact ⟨_, _, h⟩)) (by kernel_rfl) (fun W hS => rk_empty hS (by go_simp)) (by kernel_rfl) (fun W hS => rk_one hS (.tmp 98) rfl rfl) ?_ ?_
  · rintro v0 s' rfl
    (try simp only [Act.put, List.setIfInBounds_toArray, List.set_cons_zero, List.set_cons_succ])
    refine linm_fork2 6 10 (di := some 95) (dj := some 99) (fun u s => s = RK.p (some (u, [] ++ l)) none) (fun u s => ∃ g, u = .slice (some ⟨g, 0, none⟩) 1 1 ∧ s = RK.p (some (v0, [])) (some g)) (by kernel_rfl) (by decide) rfl rfl rfl rfl rfl rfl (rkMay_no (fun u s' hu => ⟨_, _, hu⟩)) (rkMay_no (fun u s' hu => by obtain ⟨g, _, h⟩ := hu; exact ⟨_, _, h⟩)) (by kernel_rfl) (fun W hS => rk_all HM.out HLX.out hS (.tmp 90) (.tmp 94) rfl rfl rfl) (by kernel_rfl) (fun W hS => rk_one hS (.tmp 98) rfl rfl) ?_ ?_
    · rintro v1 s' rfl
      (try simp only [Act.put, List.setIfInBounds_toArray, List.set_cons_zero, List.set_cons_succ])
      refine linm_sole 10 (di := some 99) (fun u s => ∃ g, u = .slice (some ⟨g, 0, none⟩) 1 1 ∧ s = RK.p (some (v1, [] ++ l)) (some g)) (by kernel_rfl) rfl rfl rfl (rkMay_no (fun u s' hu => by obtain ⟨g, _, h⟩ := hu; exact ⟨_, _, h⟩)) (by kernel_rfl) (fun W hS => rk_one hS (.tmp 98) rfl rfl) ?_
      rintro _ s' ⟨g9, rfl, rfl⟩
      (try simp only [Act.put, List.setIfInBounds_toArray, List.set_cons_zero, List.set_cons_succ])
      refine linm_sole 11 (di := some 100) (fun u s => s = RK.p (some (u, [] ++ l ++ [x])) (some g9)) (by kernel_rfl) rfl rfl rfl (rkMay_no (fun u s' hu => ⟨_, _, hu⟩)) (by kernel_rfl) (fun W hS => rk_append (ys := [x]) hS (.tmp 95) (.tmp 99) rfl rfl ⟨g9, 0, none⟩ 1 1 rfl rfl (by rw [cellsE_sing]; exact (hS.2.2 g9 rfl).2.2.1) (by have := HLX.out; rw [List.nil_append]; omega)) ?_
      rintro v2 s' rfl
      (try simp only [Act.put, List.setIfInBounds_toArray, List.set_cons_zero, List.set_cons_succ])
      refine linm_step (i := 12) (d := some 101) (v := (.pointer (some ⟨b, 0, none⟩))) rfl rfl (by kernel_rfl) (by kernel_rfl) rfl rfl (ordm_value (by kernel_rfl) ?_) ?_
      · (intro _ w' _ _; go_simp)
      (try simp only [Act.put, List.setIfInBounds_toArray, List.set_cons_zero, List.set_cons_succ])
      refine linm_step (i := 13) (d := some 102) (v := .pointer (some ⟨b, 2, none⟩)) rfl rfl (by kernel_rfl) (by kernel_rfl) rfl rfl (ordm_value (by kernel_rfl) ?_) ?_
      · (intro _ w' _ _; go_simp)
      (try simp only [Act.put, List.setIfInBounds_toArray, List.set_cons_zero, List.set_cons_succ])
      refine linm_sole 14 (di := none) (fun _ s => s = RK.d v2) (by kernel_rfl) rfl rfl rfl (rkMay_last (by kernel_rfl)) (by kernel_rfl) (fun W hS => rk_store HM.out HBW.out hS (by rw [List.nil_append]) (.tmp 102) (.tmp 100) rfl rfl rfl) ?_
      rintro u s' rfl
      (try simp only [Act.put, List.setIfInBounds_toArray, List.set_cons_zero, List.set_cons_succ])
      refine linm_done (by kernel_rfl) ?_
      intro W hS
      have HF2 := Lib.hid (S1.out.way.trans (show MpTo 59 (.bool false) wx base b (.slice A l.length c) room (l ++ [x]) W v2 from hS))
      clear hS
      go_wp2
      refine bodyPost_ret (results_tmp rfl _ _ _) rfl ?_
      exact ⟨rfl, v2, HF2.out⟩
    · rintro _ s' ⟨g9, rfl, rfl⟩
      (try simp only [Act.put, List.setIfInBounds_toArray, List.set_cons_zero, List.set_cons_succ])
      refine linm_sole 6 (di := some 95) (fun u s => s = RK.p (some (u, [] ++ l)) (some g9)) (by kernel_rfl) rfl rfl rfl (rkMay_no (fun u s' hu => ⟨_, _, hu⟩)) (by kernel_rfl) (fun W hS => rk_all HM.out HLX.out hS (.tmp 90) (.tmp 94) rfl rfl rfl) ?_
      rintro v1 s' rfl
      (try simp only [Act.put, List.setIfInBounds_toArray, List.set_cons_zero, List.set_cons_succ])
      refine linm_sole 11 (di := some 100) (fun u s => s = RK.p (some (u, [] ++ l ++ [x])) (some g9)) (by kernel_rfl) rfl rfl rfl (rkMay_no (fun u s' hu => ⟨_, _, hu⟩)) (by kernel_rfl) (fun W hS => rk_append (ys := [x]) hS (.tmp 95) (.tmp 99) rfl rfl ⟨g9, 0, none⟩ 1 1 rfl rfl (by rw [cellsE_sing]; exact (hS.2.2 g9 rfl).2.2.1) (by have := HLX.out; rw [List.nil_append]; omega)) ?_
      rintro v2 s' rfl
      (try simp only [Act.put, List.setIfInBounds_toArray, List.set_cons_zero, List.set_cons_succ])
      refine linm_step (i := 12) (d := some 101) (v := (.pointer (some ⟨b, 0, none⟩))) rfl rfl (by kernel_rfl) (by kernel_rfl) rfl rfl (ordm_value (by kernel_rfl) ?_) ?_
      · (intro _ w' _ _; go_simp)
      (try simp only [Act.put, List.setIfInBounds_toArray, List.set_cons_zero, List.set_cons_succ])
      refine linm_step (i := 13) (d := some 102) (v := .pointer (some ⟨b, 2, none⟩)) rfl rfl (by kernel_rfl) (by kernel_rfl) rfl rfl (ordm_value (by kernel_rfl) ?_) ?_
      · (intro _ w' _ _; go_simp)
      (try simp only [Act.put, List.setIfInBounds_toArray, List.set_cons_zero, List.set_cons_succ])
      refine linm_sole 14 (di := none) (fun _ s => s = RK.d v2) (by kernel_rfl) rfl rfl rfl (rkMay_last (by kernel_rfl)) (by kernel_rfl) (fun W hS => rk_store HM.out HBW.out hS (by rw [List.nil_append]) (.tmp 102) (.tmp 100) rfl rfl rfl) ?_
      rintro u s' rfl
      (try simp only [Act.put, List.setIfInBounds_toArray, List.set_cons_zero, List.set_cons_succ])
      refine linm_done (by kernel_rfl) ?_
      intro W hS
      have HF2 := Lib.hid (S1.out.way.trans (show MpTo 59 (.bool false) wx base b (.slice A l.length c) room (l ++ [x]) W v2 from hS))
      clear hS
      go_wp2
      refine bodyPost_ret (results_tmp rfl _ _ _) rfl ?_
      exact ⟨rfl, v2, HF2.out⟩
  · rintro _ s' ⟨g9, rfl, rfl⟩
    (try simp only [Act.put, List.setIfInBounds_toArray, List.set_cons_zero, List.set_cons_succ])
    refine linm_sole 1 (di := some 90) (fun u s => s = RK.p (some (u, [])) (some g9)) (by kernel_rfl) rfl rfl rfl (rkMay_no (fun u s' hu => ⟨_, _, hu⟩)) (by kernel_rfl) (fun W hS => rk_empty hS (by go_simp)) ?_
    rintro v0 s' rfl
    (try simp only [Act.put, List.setIfInBounds_toArray, List.set_cons_zero, List.set_cons_succ])
    refine linm_sole 6 (di := some 95) (fun u s => s = RK.p (some (u, [] ++ l)) (some g9)) (by kernel_rfl) rfl rfl rfl (rkMay_no (fun u s' hu => ⟨_, _, hu⟩)) (by kernel_rfl) (fun W hS => rk_all HM.out HLX.out hS (.tmp 90) (.tmp 94) rfl rfl rfl) ?_
    rintro v1 s' rfl
    (try simp only [Act.put, List.setIfInBounds_toArray, List.set_cons_zero, List.set_cons_succ])
    refine linm_sole 11 (di := some 100) (fun u s => s = RK.p (some (u, [] ++ l ++ [x])) (some g9)) (by kernel_rfl) rfl rfl rfl (rkMay_no (fun u s' hu => ⟨_, _, hu⟩)) (by kernel_rfl) (fun W hS => rk_append (ys := [x]) hS (.tmp 95) (.tmp 99) rfl rfl ⟨g9, 0, none⟩ 1 1 rfl rfl (by rw [cellsE_sing]; exact (hS.2.2 g9 rfl).2.2.1) (by have := HLX.out; rw [List.nil_append]; omega)) ?_
    rintro v2 s' rfl
    (try simp only [Act.put, List.setIfInBounds_toArray, List.set_cons_zero, List.set_cons_succ])
    refine linm_step (i := 12) (d := some 101) (v := (.pointer (some ⟨b, 0, none⟩))) rfl rfl (by kernel_rfl) (by kernel_rfl) rfl rfl (ordm_value (by kernel_rfl) ?_) ?_
    · (intro _ w' _ _; go_simp)
    (try simp only [Act.put, List.setIfInBounds_toArray, List.set_cons_zero, List.set_cons_succ])
    refine linm_step (i := 13) (d := some 102) (v := .pointer (some ⟨b, 2, none⟩)) rfl rfl (by kernel_rfl) (by kernel_rfl) rfl rfl (ordm_value (by kernel_rfl) ?_) ?_
    · (intro _ w' _ _; go_simp)
    (try simp only [Act.put, List.setIfInBounds_toArray, List.set_cons_zero, List.set_cons_succ])
    refine linm_sole 14 (di := none) (fun _ s => s = RK.d v2) (by kernel_rfl) rfl rfl rfl (rkMay_last (by kernel_rfl)) (by kernel_rfl) (fun W hS => rk_store HM.out HBW.out hS (by rw [List.nil_append]) (.tmp 102) (.tmp 100) rfl rfl rfl) ?_
    rintro u s' rfl
    (try simp only [Act.put, List.setIfInBounds_toArray, List.set_cons_zero, List.set_cons_succ])
    refine linm_done (by kernel_rfl) ?_
    intro W hS
    have HF2 := Lib.hid (S1.out.way.trans (show MpTo 59 (.bool false) wx base b (.slice A l.length c) room (l ++ [x]) W v2 from hS))
    clear hS
    go_wp2
    refine bodyPost_ret (results_tmp rfl _ _ _) rfl ?_
    exact ⟨rfl, v2, HF2.out⟩
set_option maxRecDepth 100000 in
set_option maxHeartbeats 4000000 in
theorem rput_lru_room (base b : Nat) (sv : Value) (room : Nat) (l : List Z.En) (x : Z.En) (hp : Z.pos x.key l = none) (hr : l.length < room) (hr1 : 1 ≤ room) (w : World) (h : MpAt 59 (.bool true) w base b sv room l) (hn : l.length ≤ 1000) (hbase : base ≤ w.heap.size) :
    Calls Try.prog 26 #[.pointer (some ⟨b, 0, none⟩), .int .i64 x.key, .agg #[.int .i64 x.a, .int .i64 x.b, .int .i64 x.c, .int .i64 x.d]] w fun e w' => e = .returned (.int .i64 0) ∧ ∃ sv', MpTo 59 (.bool true) w base b sv room (l ++ [x]) w' sv' := by
  have S0 : Hid (InS 59 (.bool true) w base b sv room l w.heap.size (wordsL x) (w.alloc (.cells #[.int .i64 x.a, .int .i64 x.b, .int .i64 x.c, .int .i64 x.d] 57)) sv) := Lib.hid ⟨MpTo.self h ((Below.refl _ _).alloc (Nat.le_refl _) _), rowAt_new w (wordsL x) _, by rw [wordsL_length]; omega, fun hf => by (have := (h.foot hf).2; omega), Nat.le_refl _⟩
  have HF := Lib.hid (fun w => rat_any (.bool true) base b sv room l x.key w)
  have HBS := Lib.hid hbase
  have HL := Lib.hid hn
  have HP : Hid (Z.posI x.key l = -1) := Lib.hid (by unfold Z.posI; rw [hp])
  have hcmp : ¬ ((l.length : Int) = (room : Int)) := by omega
  have hcmpd : decide ((l.length : Int) = (room : Int)) = false := decide_eq_false hcmp
  have hcmpb : ((l.length : Int) == (room : Int)) = false := by simp; omega
  obtain ⟨A, c, rfl⟩ := owns_slice h.own
  have H0 : Hid (0 < l.length ∨ l.length < room) := Lib.hid (by omega)
  have HRM := Lib.hid hr
  have H1 := Lib.hid hr1
  clear h hp hbase hn hr hr1
  go_enter Try.func26, Try.ntmps26
  go_upto_region 1 with fail
  generalize w.alloc (.cells #[.int .i64 x.a, .int .i64 x.b, .int .i64 x.c, .int .i64 x.d] 57) = W1 at S0 ⊢
  have hc0 : W1.cell? ⟨b, 0, none⟩ = some (.bool true) := S0.out.way.at_.row.cell 0 _ rfl
  have hc1 : W1.cell? ⟨b, 1, none⟩ = some (.int .i64 (room : Int)) := S0.out.way.at_.row.cell 1 _ rfl
  have hc2 : W1.cell? ⟨b, 2, none⟩ = some (.slice A l.length c) := S0.out.way.at_.row.cell 2 _ rfl
  go_upto_region 8 with (go_at_call 36; refine (HF.out _ S0.out.way.at_ HL.out).mono ?_; rw [HP.out]; rintro e w2 ⟨rfl, rfl⟩)
  go_quiet (fail)
  have S2 := Lib.hid (S0.out.call (W' := W1.drewN nq) (below_drewN W1 nq))
  clear hc0 hc1 hc2 S0
  generalize W1.drewN nq = W2 at S2 ⊢
  have hc1 : W2.cell? ⟨b, 1, none⟩ = some (.int .i64 (room : Int)) := S2.out.way.at_.row.cell 1 _ rfl
  have hc2 : W2.cell? ⟨b, 2, none⟩ = some (.slice A l.length c) := S2.out.way.at_.row.cell 2 _ rfl
  go_upto_region 10 with fail
  go_quiet (fail)
  go_upto_region 12 with fail
  clear hc1 hc2 hcmp hcmpb hcmpd
  have S9 := Lib.hid (S2.out.call (W' := W2.drewN nq) (below_drewN W2 nq))
  have HLX := HL
  obtain ⟨wx, hwx⟩ : ∃ wx, wx = (W2.drewN nq).drew := ⟨_, rfl⟩
  have S1 := Lib.hid (S9.out.call (Below.refl _ _).drew)
  have hdr : Below wx.heap.size wx (W2.drewN nq).drew := by rw [hwx]; exact Below.refl _ _
  rw [← hwx] at S1
  have HDR := Lib.hid hdr
  have HM := Lib.hid S1.out.way.at_
  have HR := Lib.hid S1.out.row
  have HFAR := Lib.hid S1.out.far
  have HBW : Hid (base ≤ wx.heap.size) := Lib.hid (Nat.le_trans HBS.out S1.out.way.but.size)
  generalize w.heap.size = B at S1 HR HFAR ⊢
  clear hwx hdr
  refine wp_region_linm (RkS (.bool true) wx base b (.slice A l.length c) room l (l ++ [x]) x) (rkMay [5]) (fun i => i == 1 || i == 6 || i == 10 || i == 11 || i == 14) (fun qi => [(.pointer (some ⟨b, 0, none⟩)), undef, (.pointer (some ⟨b, 0, none⟩)), (.pointer (some ⟨b, 0, none⟩)), .pointer (some ⟨b, 2, none⟩), (.slice A l.length c), undef, .int .i64 x.key, .agg (wordsL x).toArray, .agg (enL x).toArray, undef, undef, (.pointer (some ⟨b, 0, none⟩)), .pointer (some ⟨b, 2, none⟩), undef].getD qi undef) (RK.p none none) (by kernel_rfl) (by kernel_rfl) (⟨HDR.out, fun v xs h => (by cases h), fun g h => (by cases h)⟩) (fun _ => rfl) ?_
  refine linm_step (i := 0) (d := some 89) (v := (.pointer (some ⟨b, 0, none⟩))) rfl rfl (by kernel_rfl) (by kernel_rfl) rfl rfl (ordm_value (by kernel_rfl) ?_) ?_
  · (intro _ w' _ _; go_simp)
  (try simp only [Act.put, List.setIfInBounds_toArray, List.set_cons_zero, List.set_cons_succ])
  refine linm_step (i := 2) (d := some 91) (v := (.pointer (some ⟨b, 0, none⟩))) rfl rfl (by kernel_rfl) (by kernel_rfl) rfl rfl (ordm_value (by kernel_rfl) ?_) ?_
  · (intro _ w' _ _; go_simp)
  (try simp only [Act.put, List.setIfInBounds_toArray, List.set_cons_zero, List.set_cons_succ])
  refine linm_step (i := 3) (d := some 92) (v := (.pointer (some ⟨b, 0, none⟩))) rfl rfl (by kernel_rfl) (by kernel_rfl) rfl rfl (ordm_value (by kernel_rfl) ?_) ?_
  · (intro _ w' _ _; go_simp)
  (try simp only [Act.put, List.setIfInBounds_toArray, List.set_cons_zero, List.set_cons_succ])
  refine linm_step (i := 4) (d := some 93) (v := .pointer (some ⟨b, 2, none⟩)) rfl rfl (by kernel_rfl) (by kernel_rfl) rfl rfl (ordm_value (by kernel_rfl) ?_) ?_
  · (intro _ w' _ _; go_simp)
  (try simp only [Act.put, List.setIfInBounds_toArray, List.set_cons_zero, List.set_cons_succ])
  refine linm_step (i := 5) (d := some 94) (v := (.slice A l.length c)) rfl rfl (by kernel_rfl) (by kernel_rfl) rfl rfl (ordm_value (by kernel_rfl) (fun s w' hm hS => rk_load HM.out (L := [5]) (k := 5) (by simp) hm hS (.tmp 93) rfl rfl)) ?_
  (try simp only [Act.put, List.setIfInBounds_toArray, List.set_cons_zero, List.set_cons_succ])
  refine linm_step (i := 7) (d := some 96) (v := .int .i64 x.key) rfl rfl (by kernel_rfl) (by kernel_rfl) rfl rfl (ordm_value (by kernel_rfl) ?_) ?_
  · (intro _ w' _ _; go_simp)
  (try simp only [Act.put, List.setIfInBounds_toArray, List.set_cons_zero, List.set_cons_succ])
  refine linm_step (i := 8) (d := some 97) (v := .agg (wordsL x).toArray) rfl rfl (by kernel_rfl) (by kernel_rfl) rfl rfl (ordm_value (by kernel_rfl) (fun s w' _ hS => run_ld_row rvalT (RkS.other HR.out HFAR.out hS) (wordsL_length x) (.tmp 5) rfl rfl)) ?_
  (try simp only [Act.put, List.setIfInBounds_toArray, List.set_cons_zero, List.set_cons_succ])
  refine linm_step (i := 9) (d := some 98) (v := .agg (enL x).toArray) rfl rfl (by kernel_rfl) (by kernel_rfl) rfl rfl (ordm_value (by kernel_rfl) ?_) ?_
  · (intro _ w' _ _; unfold enL wordsL; go_simp)
  (try simp only [Act.put, List.setIfInBounds_toArray, List.set_cons_zero, List.set_cons_succ])
  refine linm_fork2 1 10 (di := some 90) (dj := some 99) (fun u s => s = RK.p (some (u, [])) none) (fun u s => ∃ g, u = .slice (some ⟨g, 0, none⟩) 1 1 ∧ s = RK.p none (some g)) (by kernel_rfl) (by decide) rfl rfl rfl rfl rfl rfl (rkMay_no (fun u s' hu => ⟨_, _, hu⟩)) (rkMay_no (fun u s' hu => by obtain ⟨g, _, h⟩ := hu; exact ⟨_, _, h⟩)) (by kernel_rfl) (fun W hS => rk_empty hS (by go_simp)) (by kernel_rfl) (fun W hS => rk_one hS (.tmp 98) rfl rfl) ?_ ?_
  · rintro v0 s' rfl
    (try simp only [Act.put, List.setIfInBounds_toArray, List.set_cons_zero, List.set_cons_succ])
    refine linm_fork2 6 10 (di := some 95) (dj := some 99) (fun u s => s = RK.p (some (u, [] ++ l)) none) (fun u s => ∃ g, u = .slice (some ⟨g, 0, none⟩) 1 1 ∧ s = RK.p (some (v0, [])) (some g)) (by kernel_rfl) (by decide) rfl rfl rfl rfl rfl rfl (rkMay_no (fun u s' hu => ⟨_, _, hu⟩)) (rkMay_no (fun u s' hu => by obtain ⟨g, _, h⟩ := hu; exact ⟨_, _, h⟩)) (by kernel_rfl) (fun W hS => rk_all HM.out HLX.out hS (.tmp 90) (.tmp 94) rfl rfl rfl) (by kernel_rfl) (fun W hS => rk_one hS (.tmp 98) rfl rfl) ?_ ?_
    · rintro v1 s' rfl
      (try simp only [Act.put, List.setIfInBounds_toArray, List.set_cons_zero, List.set_cons_succ])
      refine linm_sole 10 (di := some 99) (fun u s => ∃ g, u = .slice (some ⟨g, 0, none⟩) 1 1 ∧ s = RK.p (some (v1, [] ++ l)) (some g)) (by kernel_rfl) rfl rfl rfl (rkMay_no (fun u s' hu => by obtain ⟨g, _, h⟩ := hu; exact ⟨_, _, h⟩)) (by kernel_rfl) (fun W hS => rk_one hS (.tmp 98) rfl rfl) ?_
      rintro _ s' ⟨g9, rfl, rfl⟩
      (try simp only [Act.put, List.setIfInBounds_toArray, List.set_cons_zero, List.set_cons_succ])
      refine linm_sole 11 (di := some 100) (fun u s => s = RK.p (some (u, [] ++ l ++ [x])) (some g9)) (by kernel_rfl) rfl rfl rfl (rkMay_no (fun u s' hu => ⟨_, _, hu⟩)) (by kernel_rfl) (fun W hS => rk_append (ys := [x]) hS (.tmp 95) (.tmp 99) rfl rfl ⟨g9, 0, none⟩ 1 1 rfl rfl (by rw [cellsE_sing]; exact (hS.2.2 g9 rfl).2.2.1) (by have := HLX.out; rw [List.nil_append]; omega)) ?_
      rintro v2 s' rfl
      (try simp only [Act.put, List.setIfInBounds_toArray, List.set_cons_zero, List.set_cons_succ])
      refine linm_step (i := 12) (d := some 101) (v := (.pointer (some ⟨b, 0, none⟩))) rfl rfl (by kernel_rfl) (by kernel_rfl) rfl rfl (ordm_value (by kernel_rfl) ?_) ?_
      · (intro _ w' _ _; go_simp)
      (try simp only [Act.put, List.setIfInBounds_toArray, List.set_cons_zero, List.set_cons_succ])
      refine linm_step (i := 13) (d := some 102) (v := .pointer (some ⟨b, 2, none⟩)) rfl rfl (by kernel_rfl) (by kernel_rfl) rfl rfl (ordm_value (by kernel_rfl) ?_) ?_
      · (intro _ w' _ _; go_simp)
      (try simp only [Act.put, List.setIfInBounds_toArray, List.set_cons_zero, List.set_cons_succ])
      refine linm_sole 14 (di := none) (fun _ s => s = RK.d v2) (by kernel_rfl) rfl rfl rfl (rkMay_last (by kernel_rfl)) (by kernel_rfl) (fun W hS => rk_store HM.out HBW.out hS (by rw [List.nil_append]) (.tmp 102) (.tmp 100) rfl rfl rfl) ?_
      rintro u s' rfl
      (try simp only [Act.put, List.setIfInBounds_toArray, List.set_cons_zero, List.set_cons_succ])
      refine linm_done (by kernel_rfl) ?_
      intro W hS
      have HF2 := Lib.hid (S1.out.way.trans (show MpTo 59 (.bool true) wx base b (.slice A l.length c) room (l ++ [x]) W v2 from hS))
      clear hS
      go_wp2
      refine bodyPost_ret (results_tmp rfl _ _ _) rfl ?_
      exact ⟨rfl, v2, HF2.out⟩
    · rintro _ s' ⟨g9, rfl, rfl⟩
      (try simp only [Act.put, List.setIfInBounds_toArray, List.set_cons_zero, List.set_cons_succ])
      refine linm_sole 6 (di := some 95) (fun u s => s = RK.p (some (u, [] ++ l)) (some g9)) (by kernel_rfl) rfl rfl rfl (rkMay_no (fun u s' hu => ⟨_, _, hu⟩)) (by kernel_rfl) (fun W hS => rk_all HM.out HLX.out hS (.tmp 90) (.tmp 94) rfl rfl rfl) ?_
      rintro v1 s' rfl
      (try simp only [Act.put, List.setIfInBounds_toArray, List.set_cons_zero, List.set_cons_succ])
      refine linm_sole 11 (di := some 100) (fun u s => s = RK.p (some (u, [] ++ l ++ [x])) (some g9)) (by kernel_rfl) rfl rfl rfl (rkMay_no (fun u s' hu => ⟨_, _, hu⟩)) (by kernel_rfl) (fun W hS => rk_append (ys := [x]) hS (.tmp 95) (.tmp 99) rfl rfl ⟨g9, 0, none⟩ 1 1 rfl rfl (by rw [cellsE_sing]; exact (hS.2.2 g9 rfl).2.2.1) (by have := HLX.out; rw [List.nil_append]; omega)) ?_
      rintro v2 s' rfl
      (try simp only [Act.put, List.setIfInBounds_toArray, List.set_cons_zero, List.set_cons_succ])
      refine linm_step (i := 12) (d := some 101) (v := (.pointer (some ⟨b, 0, none⟩))) rfl rfl (by kernel_rfl) (by kernel_rfl) rfl rfl (ordm_value (by kernel_rfl) ?_) ?_
      · (intro _ w' _ _; go_simp)
      (try simp only [Act.put, List.setIfInBounds_toArray, List.set_cons_zero, List.set_cons_succ])
      refine linm_step (i := 13) (d := some 102) (v := .pointer (some ⟨b, 2, none⟩)) rfl rfl (by kernel_rfl) (by kernel_rfl) rfl rfl (ordm_value (by kernel_rfl) ?_) ?_
      · (intro _ w' _ _; go_simp)
      (try simp only [Act.put, List.setIfInBounds_toArray, List.set_cons_zero, List.set_cons_succ])
      refine linm_sole 14 (di := none) (fun _ s => s = RK.d v2) (by kernel_rfl) rfl rfl rfl (rkMay_last (by kernel_rfl)) (by kernel_rfl) (fun W hS => rk_store HM.out HBW.out hS (by rw [List.nil_append]) (.tmp 102) (.tmp 100) rfl rfl rfl) ?_
      rintro u s' rfl
      (try simp only [Act.put, List.setIfInBounds_toArray, List.set_cons_zero, List.set_cons_succ])
      refine linm_done (by kernel_rfl) ?_
      intro W hS
      have HF2 := Lib.hid (S1.out.way.trans (show MpTo 59 (.bool true) wx base b (.slice A l.length c) room (l ++ [x]) W v2 from hS))
      clear hS
      go_wp2
      refine bodyPost_ret (results_tmp rfl _ _ _) rfl ?_
      exact ⟨rfl, v2, HF2.out⟩
  · rintro _ s' ⟨g9, rfl, rfl⟩
    (try simp only [Act.put, List.setIfInBounds_toArray, List.set_cons_zero, List.set_cons_succ])
    refine linm_sole 1 (di := some 90) (fun u s => s = RK.p (some (u, [])) (some g9)) (by kernel_rfl) rfl rfl rfl (rkMay_no (fun u s' hu => ⟨_, _, hu⟩)) (by kernel_rfl) (fun W hS => rk_empty hS (by go_simp)) ?_
    rintro v0 s' rfl
    (try simp only [Act.put, List.setIfInBounds_toArray, List.set_cons_zero, List.set_cons_succ])
    refine linm_sole 6 (di := some 95) (fun u s => s = RK.p (some (u, [] ++ l)) (some g9)) (by kernel_rfl) rfl rfl rfl (rkMay_no (fun u s' hu => ⟨_, _, hu⟩)) (by kernel_rfl) (fun W hS => rk_all HM.out HLX.out hS (.tmp 90) (.tmp 94) rfl rfl rfl) ?_
    rintro v1 s' rfl
    (try simp only [Act.put, List.setIfInBounds_toArray, List.set_cons_zero, List.set_cons_succ])
    refine linm_sole 11 (di := some 100) (fun u s => s = RK.p (some (u, [] ++ l ++ [x])) (some g9)) (by kernel_rfl) rfl rfl rfl (rkMay_no (fun u s' hu => ⟨_, _, hu⟩)) (by kernel_rfl) (fun W hS => rk_append (ys := [x]) hS (.tmp 95) (.tmp 99) rfl rfl ⟨g9, 0, none⟩ 1 1 rfl rfl (by rw [cellsE_sing]; exact (hS.2.2 g9 rfl).2.2.1) (by have := HLX.out; rw [List.nil_append]; omega)) ?_
    rintro v2 s' rfl
    (try simp only [Act.put, List.setIfInBounds_toArray, List.set_cons_zero, List.set_cons_succ])
    refine linm_step (i := 12) (d := some 101) (v := (.pointer (some ⟨b, 0, none⟩))) rfl rfl (by kernel_rfl) (by kernel_rfl) rfl rfl (ordm_value (by kernel_rfl) ?_) ?_
    · (intro _ w' _ _; go_simp)
    (try simp only [Act.put, List.setIfInBounds_toArray, List.set_cons_zero, List.set_cons_succ])
    refine linm_step (i := 13) (d := some 102) (v := .pointer (some ⟨b, 2, none⟩)) rfl rfl (by kernel_rfl) (by kernel_rfl) rfl rfl (ordm_value (by kernel_rfl) ?_) ?_
    · (intro _ w' _ _; go_simp)
    (try simp only [Act.put, List.setIfInBounds_toArray, List.set_cons_zero, List.set_cons_succ])
    refine linm_sole 14 (di := none) (fun _ s => s = RK.d v2) (by kernel_rfl) rfl rfl rfl (rkMay_last (by kernel_rfl)) (by kernel_rfl) (fun W hS => rk_store HM.out HBW.out hS (by rw [List.nil_append]) (.tmp 102) (.tmp 100) rfl rfl rfl) ?_
    rintro u s' rfl
    (try simp only [Act.put, List.setIfInBounds_toArray, List.set_cons_zero, List.set_cons_succ])
    refine linm_done (by kernel_rfl) ?_
    intro W hS
    have HF2 := Lib.hid (S1.out.way.trans (show MpTo 59 (.bool true) wx base b (.slice A l.length c) room (l ++ [x]) W v2 from hS))
    clear hS
    go_wp2
    refine bodyPost_ret (results_tmp rfl _ _ _) rfl ?_
    exact ⟨rfl, v2, HF2.out⟩
end Go.Proofs.Ythngbakbiocadaa

/-
  The document's Put of a new key into a full Hash.
-/
namespace Go.Proofs.Ythngbakbiocadaa
set_option maxRecDepth 100000
open Go.RowKit Go.Maps

set_option maxRecDepth 100000 in
set_option maxHeartbeats 4000000 in
theorem rput_hash_full (base b : Nat) (sv : Value) (room : Nat) (l : List Z.En) (x : Z.En) (hp : Z.pos x.key l = none) (hr : l.length = room) (hr1 : 1 ≤ room) (w : World) (h : MpAt 59 (.bool false) w base b sv room l) (hn : l.length ≤ 1000) (hbase : base ≤ w.heap.size) :
    Calls Try.prog 26 #[.pointer (some ⟨b, 0, none⟩), .int .i64 x.key, .agg #[.int .i64 x.a, .int .i64 x.b, .int .i64 x.c, .int .i64 x.d]] w fun e w' => e = .returned (.int .i64 28) ∧ ∃ sv', MpTo 59 (.bool false) w base b sv room (l) w' sv' := by
  have S0 : Hid (InS 59 (.bool false) w base b sv room l w.heap.size (wordsL x) (w.alloc (.cells #[.int .i64 x.a, .int .i64 x.b, .int .i64 x.c, .int .i64 x.d] 57)) sv) := Lib.hid ⟨MpTo.self h ((Below.refl _ _).alloc (Nat.le_refl _) _), rowAt_new w (wordsL x) _, by rw [wordsL_length]; omega, fun hf => by (have := (h.foot hf).2; omega), Nat.le_refl _⟩
  have HF := Lib.hid (fun w => rat_any (.bool false) base b sv room l x.key w)
  have HBS := Lib.hid hbase
  have HL := Lib.hid hn
  have HP : Hid (Z.posI x.key l = -1) := Lib.hid (by unfold Z.posI; rw [hp])
  have hcmp :  ((l.length : Int) = (room : Int)) := by omega
  have hcmpb : ((l.length : Int) == (room : Int)) = true := by simp; omega
  obtain ⟨A, c, rfl⟩ := owns_slice h.own
  have H0 : Hid (0 < l.length ∨ l.length < room) := Lib.hid (by omega)
  have HRM := Lib.hid hr
  have H1 := Lib.hid hr1
  clear h hp hbase hn hr hr1
  go_enter Try.func26, Try.ntmps26
  go_upto_region 1 with fail
  generalize w.alloc (.cells #[.int .i64 x.a, .int .i64 x.b, .int .i64 x.c, .int .i64 x.d] 57) = W1 at S0 ⊢
  have hc0 : W1.cell? ⟨b, 0, none⟩ = some (.bool false) := S0.out.way.at_.row.cell 0 _ rfl
  have hc1 : W1.cell? ⟨b, 1, none⟩ = some (.int .i64 (room : Int)) := S0.out.way.at_.row.cell 1 _ rfl
  have hc2 : W1.cell? ⟨b, 2, none⟩ = some (.slice A l.length c) := S0.out.way.at_.row.cell 2 _ rfl
  go_upto_region 8 with (go_at_call 36; refine (HF.out _ S0.out.way.at_ HL.out).mono ?_; rw [HP.out]; rintro e w2 ⟨rfl, rfl⟩)
  go_quiet (fail)
  go_wp2
  refine bodyPost_ret (results_tmp rfl _ _ _) rfl ⟨rfl, _, (S0.out.call (W' := W1.drewN nq) (below_drewN W1 nq)).way⟩
end Go.Proofs.Ythngbakbiocadaa

/-
  The document's Put of a new key into a full Lru.
-/
namespace Go.Proofs.Ythngbakbiocadaa
set_option maxRecDepth 100000
open Go.RowKit Go.Maps

set_option maxRecDepth 100000 in
set_option maxHeartbeats 4000000 in
theorem rput_lru_full (base b : Nat) (sv : Value) (room : Nat) (l : List Z.En) (x : Z.En) (hp : Z.pos x.key l = none) (hr : l.length = room) (hr1 : 1 ≤ room) (w : World) (h : MpAt 59 (.bool true) w base b sv room l) (hn : l.length ≤ 1000) (hbase : base ≤ w.heap.size) :
    Calls Try.prog 26 #[.pointer (some ⟨b, 0, none⟩), .int .i64 x.key, .agg #[.int .i64 x.a, .int .i64 x.b, .int .i64 x.c, .int .i64 x.d]] w fun e w' => e = .returned (.int .i64 0) ∧ ∃ sv', MpTo 59 (.bool true) w base b sv room (l.eraseIdx 0 ++ [x]) w' sv' := by
  have S0 : Hid (InS 59 (.bool true) w base b sv room l w.heap.size (wordsL x) (w.alloc (.cells #[.int .i64 x.a, .int .i64 x.b, .int .i64 x.c, .int .i64 x.d] 57)) sv) := Lib.hid ⟨MpTo.self h ((Below.refl _ _).alloc (Nat.le_refl _) _), rowAt_new w (wordsL x) _, by rw [wordsL_length]; omega, fun hf => by (have := (h.foot hf).2; omega), Nat.le_refl _⟩
  have HF := Lib.hid (fun w => rat_any (.bool true) base b sv room l x.key w)
  have HBS := Lib.hid hbase
  have HL := Lib.hid hn
  have HP : Hid (Z.posI x.key l = -1) := Lib.hid (by unfold Z.posI; rw [hp])
  have hcmp :  ((l.length : Int) = (room : Int)) := by omega
  have hcmpb : ((l.length : Int) == (room : Int)) = true := by simp; omega
  obtain ⟨A, c, rfl⟩ := owns_slice h.own
  have H0 : Hid (0 < l.length ∨ l.length < room) := Lib.hid (by omega)
  have HRM := Lib.hid hr
  have H1 := Lib.hid hr1
  clear h hp hbase hn hr hr1
  go_enter Try.func26, Try.ntmps26
  go_upto_region 1 with fail
  generalize w.alloc (.cells #[.int .i64 x.a, .int .i64 x.b, .int .i64 x.c, .int .i64 x.d] 57) = W1 at S0 ⊢
  have hc0 : W1.cell? ⟨b, 0, none⟩ = some (.bool true) := S0.out.way.at_.row.cell 0 _ rfl
  have hc1 : W1.cell? ⟨b, 1, none⟩ = some (.int .i64 (room : Int)) := S0.out.way.at_.row.cell 1 _ rfl
  have hc2 : W1.cell? ⟨b, 2, none⟩ = some (.slice A l.length c) := S0.out.way.at_.row.cell 2 _ rfl
  have HPOS : Hid (0 < l.length) := Lib.hid (by have := HRM.out; have := H1.out; omega)
  have HLX : Hid ((l.eraseIdx 0).length ≤ 1000) := Lib.hid (by rw [List.length_eraseIdx, if_pos HPOS.out]; have := HL.out; omega)
  go_upto_region 8 with (go_at_call 36; refine (HF.out _ S0.out.way.at_ HL.out).mono ?_; rw [HP.out]; rintro e w2 ⟨rfl, rfl⟩)
  go_quiet (fail)
  have S2 := Lib.hid (S0.out.call (W' := W1.drewN nq) (below_drewN W1 nq))
  clear hc0 hc1 hc2 S0
  generalize W1.drewN nq = W2 at S2 ⊢
  have hc1 : W2.cell? ⟨b, 1, none⟩ = some (.int .i64 (room : Int)) := S2.out.way.at_.row.cell 1 _ rfl
  have hc2 : W2.cell? ⟨b, 2, none⟩ = some (.slice A l.length c) := S2.out.way.at_.row.cell 2 _ rfl
  go_upto_region 10 with fail
  go_quiet (fail)
  have S3 := Lib.hid (S2.out.call (W' := W2.drewN nq) (below_drewN W2 nq))
  clear hc1 hc2 hcmp hcmpb S2
  generalize W2.drewN nq = W3 at S3 ⊢
  go_upto_region 12 with (go_at_call 37; refine (rwithout_any (.bool true) base b _ room l 0 W3 S3.out.way.at_ HPOS.out HL.out).mono ?_; rintro e w5 ⟨sv2, rfl, hown, hb⟩; obtain ⟨A2, c2, rfl⟩ := owns_slice hown; have S4 := Lib.hid (S3.out.call hb); have hc5 := S4.out.way.at_.row.cell 2 _ rfl; have hf5 := S4.out.way.at_.row.frozen 2 (show 2 < 3 by decide); have S9 := Lib.hid (S3.out.turn (MpTo.stored (l' := l.eraseIdx 0) S3.out.way.at_ (But.of_below hb) (own_le hown (Nat.le_trans HBS.out S3.out.way.but.size)) (fun k hk => Or.inr (hown.lt k hk).1))); clear hown hb S4 S3)
  clear hc5 hf5
  have e9 : (l.eraseIdx 0).length = l.length - 1 := by rw [List.length_eraseIdx, if_pos HPOS.out]
  rw [e9] at S9
  clear e9
  generalize w5.setCell ⟨b, 2, none⟩ (.slice A2 (l.length - 1) c2) = W6 at S9 ⊢
  obtain ⟨wx, hwx⟩ : ∃ wx, wx = W6.drew := ⟨_, rfl⟩
  have S1 := Lib.hid (S9.out.call (Below.refl _ _).drew)
  have hdr : Below wx.heap.size wx W6.drew := by rw [hwx]; exact Below.refl _ _
  rw [← hwx] at S1
  have HDR := Lib.hid hdr
  have HM := Lib.hid S1.out.way.at_
  have HR := Lib.hid S1.out.row
  have HFAR := Lib.hid S1.out.far
  have HBW : Hid (base ≤ wx.heap.size) := Lib.hid (Nat.le_trans HBS.out S1.out.way.but.size)
  generalize w.heap.size = B at S1 HR HFAR ⊢
  clear hwx hdr
  refine wp_region_linm (RkS (.bool true) wx base b (.slice A2 (l.length - 1) c2) room (l.eraseIdx 0) (l.eraseIdx 0 ++ [x]) x) (rkMay [5]) (fun i => i == 1 || i == 6 || i == 10 || i == 11 || i == 14) (fun qi => [(.pointer (some ⟨b, 0, none⟩)), undef, (.pointer (some ⟨b, 0, none⟩)), (.pointer (some ⟨b, 0, none⟩)), .pointer (some ⟨b, 2, none⟩), (.slice A2 (l.length - 1) c2), undef, .int .i64 x.key, .agg (wordsL x).toArray, .agg (enL x).toArray, undef, undef, (.pointer (some ⟨b, 0, none⟩)), .pointer (some ⟨b, 2, none⟩), undef].getD qi undef) (RK.p none none) (by kernel_rfl) (by kernel_rfl) (⟨HDR.out, fun v xs h => (by cases h), fun g h => (by cases h)⟩) (fun _ => rfl) ?_
  refine linm_step (i := 0) (d := some 89) (v := (.pointer (some ⟨b, 0, none⟩))) rfl rfl (by kernel_rfl) (by kernel_rfl) rfl rfl (ordm_value (by kernel_rfl) ?_) ?_
  · (intro _ w' _ _; go_simp)
  (try simp only [Act.put, List.setIfInBounds_toArray, List.set_cons_zero, List.set_cons_succ])
  refine linm_step (i := 2) (d := some 91) (v := (.pointer (some ⟨b, 0, none⟩))) rfl rfl (by kernel_rfl) (by kernel_rfl) rfl rfl (ordm_value (by kernel_rfl) ?_) ?_
  · (intro _ w' _ _; go_simp)
  (try simp only [Act.put, List.setIfInBounds_toArray, List.set_cons_zero, List.set_cons_succ])
  refine linm_step (i := 3) (d := some 92) (v := (.pointer (some ⟨b, 0, none⟩))) rfl rfl (by kernel_rfl) (by kernel_rfl) rfl rfl (ordm_value (by kernel_rfl) ?_) ?_
  · (intro _ w' _ _; go_simp)
  (try simp only [Act.put, List.setIfInBounds_toArray, List.set_cons_zero, List.set_cons_succ])
  refine linm_step (i := 4) (d := some 93) (v := .pointer (some ⟨b, 2, none⟩)) rfl rfl (by kernel_rfl) (by kernel_rfl) rfl rfl (ordm_value (by kernel_rfl) ?_) ?_
  · (intro _ w' _ _; go_simp)
  (try simp only [Act.put, List.setIfInBounds_toArray, List.set_cons_zero, List.set_cons_succ])
  refine linm_step (i := 5) (d := some 94) (v := (.slice A2 (l.length - 1) c2)) rfl rfl (by kernel_rfl) (by kernel_rfl) rfl rfl (ordm_value (by kernel_rfl) (fun s w' hm hS => rk_load HM.out (L := [5]) (k := 5) (by simp) hm hS (.tmp 93) rfl rfl)) ?_
  (try simp only [Act.put, List.setIfInBounds_toArray, List.set_cons_zero, List.set_cons_succ])
  refine linm_step (i := 7) (d := some 96) (v := .int .i64 x.key) rfl rfl (by kernel_rfl) (by kernel_rfl) rfl rfl (ordm_value (by kernel_rfl) ?_) ?_
  · (intro _ w' _ _; go_simp)
  (try simp only [Act.put, List.setIfInBounds_toArray, List.set_cons_zero, List.set_cons_succ])
  refine linm_step (i := 8) (d := some 97) (v := .agg (wordsL x).toArray) rfl rfl (by kernel_rfl) (by kernel_rfl) rfl rfl (ordm_value (by kernel_rfl) (fun s w' _ hS => run_ld_row rvalT (RkS.other HR.out HFAR.out hS) (wordsL_length x) (.tmp 5) rfl rfl)) ?_
  (try simp only [Act.put, List.setIfInBounds_toArray, List.set_cons_zero, List.set_cons_succ])
  refine linm_step (i := 9) (d := some 98) (v := .agg (enL x).toArray) rfl rfl (by kernel_rfl) (by kernel_rfl) rfl rfl (ordm_value (by kernel_rfl) ?_) ?_
  · (intro _ w' _ _; unfold enL wordsL; go_simp)
  (try simp only [Act.put, List.setIfInBounds_toArray, List.set_cons_zero, List.set_cons_succ])
  refine linm_fork2 1 10 (di := some 90) (dj := some 99) (fun u s => s = RK.p (some (u, [])) none) (fun u s => ∃ g, u = .slice (some ⟨g, 0, none⟩) 1 1 ∧ s = RK.p none (some g)) (by kernel_rfl) (by decide) rfl rfl rfl rfl rfl rfl (rkMay_no (fun u s' hu => ⟨_, _, hu⟩)) (rkMay_no (fun u s' hu => by obtain ⟨g, _, h⟩ := hu; exact ⟨_, _, h⟩)) (by kernel_rfl) (fun W hS => rk_empty hS (by go_simp)) (by kernel_rfl) (fun W hS => rk_one hS (.tmp 98) rfl rfl) ?_ ?_
  · rintro v0 s' rfl
    (try simp only [Act.put, List.setIfInBounds_toArray, List.set_cons_zero, List.set_cons_succ])
    refine linm_fork2 6 10 (di := some 95) (dj := some 99) (fun u s => s = RK.p (some (u, [] ++ (l.eraseIdx 0))) none) (fun u s => ∃ g, u = .slice (some ⟨g, 0, none⟩) 1 1 ∧ s = RK.p (some (v0, [])) (some g)) (by kernel_rfl) (by decide) rfl rfl rfl rfl rfl rfl (rkMay_no (fun u s' hu => ⟨_, _, hu⟩)) (rkMay_no (fun u s' hu => by obtain ⟨g, _, h⟩ := hu; exact ⟨_, _, h⟩)) (by kernel_rfl) (fun W hS => rk_all HM.out HLX.out hS (.tmp 90) (.tmp 94) rfl rfl rfl) (by kernel_rfl) (fun W hS => rk_one hS (.tmp 98) rfl rfl) ?_ ?_
    · rintro v1 s' rfl
      (try simp only [Act.put, List.setIfInBounds_toArray, List.set_cons_zero, List.set_cons_succ])
      refine linm_sole 10 (di := some 99) (fun u s => ∃ g, u = .slice (some ⟨g, 0, none⟩) 1 1 ∧ s = RK.p (some (v1, [] ++ (l.eraseIdx 0))) (some g)) (by kernel_rfl) rfl rfl rfl (rkMay_no (fun u s' hu => by obtain ⟨g, _, h⟩ := hu; exact ⟨_, _, h⟩)) (by kernel_rfl) (fun W hS => rk_one hS (.tmp 98) rfl rfl) ?_
      rintro _ s' ⟨g9, rfl, rfl⟩
      (try simp only [Act.put, List.setIfInBounds_toArray, List.set_cons_zero, List.set_cons_succ])
      refine linm_sole 11 (di := some 100) (fun u s => s = RK.p (some (u, [] ++ (l.eraseIdx 0) ++ [x])) (some g9)) (by kernel_rfl) rfl rfl rfl (rkMay_no (fun u s' hu => ⟨_, _, hu⟩)) (by kernel_rfl) (fun W hS => rk_append (ys := [x]) hS (.tmp 95) (.tmp 99) rfl rfl ⟨g9, 0, none⟩ 1 1 rfl rfl (by rw [cellsE_sing]; exact (hS.2.2 g9 rfl).2.2.1) (by have := HLX.out; rw [List.nil_append]; omega)) ?_
      rintro v2 s' rfl
      (try simp only [Act.put, List.setIfInBounds_toArray, List.set_cons_zero, List.set_cons_succ])
      refine linm_step (i := 12) (d := some 101) (v := (.pointer (some ⟨b, 0, none⟩))) rfl rfl (by kernel_rfl) (by kernel_rfl) rfl rfl (ordm_value (by kernel_rfl) ?_) ?_
      · (intro _ w' _ _; go_simp)
      (try simp only [Act.put, List.setIfInBounds_toArray, List.set_cons_zero, List.set_cons_succ])
      refine linm_step (i := 13) (d := some 102) (v := .pointer (some ⟨b, 2, none⟩)) rfl rfl (by kernel_rfl) (by kernel_rfl) rfl rfl (ordm_value (by kernel_rfl) ?_) ?_
      · (intro _ w' _ _; go_simp)
      (try simp only [Act.put, List.setIfInBounds_toArray, List.set_cons_zero, List.set_cons_succ])
      refine linm_sole 14 (di := none) (fun _ s => s = RK.d v2) (by kernel_rfl) rfl rfl rfl (rkMay_last (by kernel_rfl)) (by kernel_rfl) (fun W hS => rk_store HM.out HBW.out hS (by rw [List.nil_append]) (.tmp 102) (.tmp 100) rfl rfl rfl) ?_
      rintro u s' rfl
      (try simp only [Act.put, List.setIfInBounds_toArray, List.set_cons_zero, List.set_cons_succ])
      refine linm_done (by kernel_rfl) ?_
      intro W hS
      have HF2 := Lib.hid (S1.out.way.trans (show MpTo 59 (.bool true) wx base b (.slice A2 (l.length - 1) c2) room (l.eraseIdx 0 ++ [x]) W v2 from hS))
      clear hS
      go_wp2
      refine bodyPost_ret (results_tmp rfl _ _ _) rfl ?_
      exact ⟨rfl, v2, HF2.out⟩
    · rintro _ s' ⟨g9, rfl, rfl⟩
      (try simp only [Act.put, List.setIfInBounds_toArray, List.set_cons_zero, List.set_cons_succ])
      refine linm_sole 6 (di := some 95) (fun u s => s = RK.p (some (u, [] ++ (l.eraseIdx 0))) (some g9)) (by kernel_rfl) rfl rfl rfl (rkMay_no (fun u s' hu => ⟨_, _, hu⟩)) (by kernel_rfl) (fun W hS => rk_all HM.out HLX.out hS (.tmp 90) (.tmp 94) rfl rfl rfl) ?_
      rintro v1 s' rfl
      (try simp only [Act.put, List.setIfInBounds_toArray, List.set_cons_zero, List.set_cons_succ])
      refine linm_sole 11 (di := some 100) (fun u s => s = RK.p (some (u, [] ++ (l.eraseIdx 0) ++ [x])) (some g9)) (by kernel_rfl) rfl rfl rfl (rkMay_no (fun u s' hu => ⟨_, _, hu⟩)) (by kernel_rfl) (fun W hS => rk_append (ys := [x]) hS (.tmp 95) (.tmp 99) rfl rfl ⟨g9, 0, none⟩ 1 1 rfl rfl (by rw [cellsE_sing]; exact (hS.2.2 g9 rfl).2.2.1) (by have := HLX.out; rw [List.nil_append]; omega)) ?_
      rintro v2 s' rfl
      (try simp only [Act.put, List.setIfInBounds_toArray, List.set_cons_zero, List.set_cons_succ])
      refine linm_step (i := 12) (d := some 101) (v := (.pointer (some ⟨b, 0, none⟩))) rfl rfl (by kernel_rfl) (by kernel_rfl) rfl rfl (ordm_value (by kernel_rfl) ?_) ?_
      · (intro _ w' _ _; go_simp)
      (try simp only [Act.put, List.setIfInBounds_toArray, List.set_cons_zero, List.set_cons_succ])
      refine linm_step (i := 13) (d := some 102) (v := .pointer (some ⟨b, 2, none⟩)) rfl rfl (by kernel_rfl) (by kernel_rfl) rfl rfl (ordm_value (by kernel_rfl) ?_) ?_
      · (intro _ w' _ _; go_simp)
      (try simp only [Act.put, List.setIfInBounds_toArray, List.set_cons_zero, List.set_cons_succ])
      refine linm_sole 14 (di := none) (fun _ s => s = RK.d v2) (by kernel_rfl) rfl rfl rfl (rkMay_last (by kernel_rfl)) (by kernel_rfl) (fun W hS => rk_store HM.out HBW.out hS (by rw [List.nil_append]) (.tmp 102) (.tmp 100) rfl rfl rfl) ?_
      rintro u s' rfl
      (try simp only [Act.put, List.setIfInBounds_toArray, List.set_cons_zero, List.set_cons_succ])
      refine linm_done (by kernel_rfl) ?_
      intro W hS
      have HF2 := Lib.hid (S1.out.way.trans (show MpTo 59 (.bool true) wx base b (.slice A2 (l.length - 1) c2) room (l.eraseIdx 0 ++ [x]) W v2 from hS))
      clear hS
      go_wp2
      refine bodyPost_ret (results_tmp rfl _ _ _) rfl ?_
      exact ⟨rfl, v2, HF2.out⟩
  · rintro _ s' ⟨g9, rfl, rfl⟩
    (try simp only [Act.put, List.setIfInBounds_toArray, List.set_cons_zero, List.set_cons_succ])
    refine linm_sole 1 (di := some 90) (fun u s => s = RK.p (some (u, [])) (some g9)) (by kernel_rfl) rfl rfl rfl (rkMay_no (fun u s' hu => ⟨_, _, hu⟩)) (by kernel_rfl) (fun W hS => rk_empty hS (by go_simp)) ?_
    rintro v0 s' rfl
    (try simp only [Act.put, List.setIfInBounds_toArray, List.set_cons_zero, List.set_cons_succ])
    refine linm_sole 6 (di := some 95) (fun u s => s = RK.p (some (u, [] ++ (l.eraseIdx 0))) (some g9)) (by kernel_rfl) rfl rfl rfl (rkMay_no (fun u s' hu => ⟨_, _, hu⟩)) (by kernel_rfl) (fun W hS => rk_all HM.out HLX.out hS (.tmp 90) (.tmp 94) rfl rfl rfl) ?_
    rintro v1 s' rfl
    (try simp only [Act.put, List.setIfInBounds_toArray, List.set_cons_zero, List.set_cons_succ])
    refine linm_sole 11 (di := some 100) (fun u s => s = RK.p (some (u, [] ++ (l.eraseIdx 0) ++ [x])) (some g9)) (by kernel_rfl) rfl rfl rfl (rkMay_no (fun u s' hu => ⟨_, _, hu⟩)) (by kernel_rfl) (fun W hS => rk_append (ys := [x]) hS (.tmp 95) (.tmp 99) rfl rfl ⟨g9, 0, none⟩ 1 1 rfl rfl (by rw [cellsE_sing]; exact (hS.2.2 g9 rfl).2.2.1) (by have := HLX.out; rw [List.nil_append]; omega)) ?_
    rintro v2 s' rfl
    (try simp only [Act.put, List.setIfInBounds_toArray, List.set_cons_zero, List.set_cons_succ])
    refine linm_step (i := 12) (d := some 101) (v := (.pointer (some ⟨b, 0, none⟩))) rfl rfl (by kernel_rfl) (by kernel_rfl) rfl rfl (ordm_value (by kernel_rfl) ?_) ?_
    · (intro _ w' _ _; go_simp)
    (try simp only [Act.put, List.setIfInBounds_toArray, List.set_cons_zero, List.set_cons_succ])
    refine linm_step (i := 13) (d := some 102) (v := .pointer (some ⟨b, 2, none⟩)) rfl rfl (by kernel_rfl) (by kernel_rfl) rfl rfl (ordm_value (by kernel_rfl) ?_) ?_
    · (intro _ w' _ _; go_simp)
    (try simp only [Act.put, List.setIfInBounds_toArray, List.set_cons_zero, List.set_cons_succ])
    refine linm_sole 14 (di := none) (fun _ s => s = RK.d v2) (by kernel_rfl) rfl rfl rfl (rkMay_last (by kernel_rfl)) (by kernel_rfl) (fun W hS => rk_store HM.out HBW.out hS (by rw [List.nil_append]) (.tmp 102) (.tmp 100) rfl rfl rfl) ?_
    rintro u s' rfl
    (try simp only [Act.put, List.setIfInBounds_toArray, List.set_cons_zero, List.set_cons_succ])
    refine linm_done (by kernel_rfl) ?_
    intro W hS
    have HF2 := Lib.hid (S1.out.way.trans (show MpTo 59 (.bool true) wx base b (.slice A2 (l.length - 1) c2) room (l.eraseIdx 0 ++ [x]) W v2 from hS))
    clear hS
    go_wp2
    refine bodyPost_ret (results_tmp rfl _ _ _) rfl ?_
    exact ⟨rfl, v2, HF2.out⟩
end Go.Proofs.Ythngbakbiocadaa

/-
  Arguments opened: a value of four words, keys as bytes, ints, specs.
-/
namespace Go.Proofs.Ythngbakbiocadaa
set_option maxRecDepth 100000
open Go.ChangeShapes Go.WideShapes Go.ChangeAt Go.RowKit Go.Maps

theorem cellsI : Try.prog.cellsOf 3 = 1 := by kernel_rfl
theorem cellsU : Try.prog.cellsOf 5 = 1 := by kernel_rfl
theorem cellsV : Try.prog.cellsOf 60 = 4 := by kernel_rfl
theorem open_val {H : Type} {enc : TypeId × Value → H} {W : World} {base : Nat} {v : Value} {d : DataW H} {p : List MemPlace} (hv : Value.okWide Try.prog W .any base 60 v)
    (h : DataW.Trod enc Try.prog W 0 (fun _ => true) true 60 v d p) : ∃ a b c e : Int, v = .agg #[.int .i64 a, .int .i64 b, .int .i64 c, .int .i64 e] := by
  obtain ⟨cs, rfl, hsz⟩ := okWide_array Try.underlying60 hv
  obtain ⟨fuel, hf⟩ := h
  obtain ⟨xs, mm, _, _, hcl, hxl, hx⟩ := DataW.trod_array Try.underlying60 hf
  have hc4 : cs.size = 4 := by rw [hsz, cellsV]
  have each : ∀ j, j < 4 → ∃ a : Int, cs.toList[j]? = some (.int .i64 a) := by
    intro j hj
    have hx' := hx j (by omega)
    rw [cellsI, Nat.mul_one] at hx'
    have hs : xs[j]? = some (xs[j]'(by omega)) := List.getElem?_eq_getElem (by omega)
    obtain ⟨v, hv, _, hw⟩ := DataW.trod_int Try.underlying3 (hx'.trans hs)
    refine ⟨v, ?_⟩
    have hjl : j < cs.toList.length := by rw [Array.length_toList]; omega
    have e : ((Value.agg cs).cells.toList.drop j).take 1 = [cs.toList[j]] := by
      show (cs.toList.drop j).take 1 = _
      rw [List.drop_eq_getElem_cons hjl]; rfl
    rw [e] at hv
    injection hv with hv
    rw [List.getElem?_eq_getElem hjl, hv]
  obtain ⟨l⟩ := cs
  have hl : l.length = 4 := by simpa using hc4
  match l, hl with
  | [x0, x1, x2, x3], _ =>
    obtain ⟨a, ha⟩ := each 0 (by omega)
    obtain ⟨b, hb⟩ := each 1 (by omega)
    obtain ⟨c, hc⟩ := each 2 (by omega)
    obtain ⟨d, hd⟩ := each 3 (by omega)
    simp at ha hb hc hd
    subst ha hb hc hd
    exact ⟨a, b, c, d, rfl⟩
/-- keys that lie in a slice of bytes -/
structure KeysAt (w : World) (A : Option Addr) (n : Nat) (ks : List Nat) : Prop where
  len : ks.length = n
  small : ∀ k ∈ ks, k ≤ 255
  rows : ManyAt w A 1 (ks.map fun (k : Nat) => [Value.int .u8 (k : Int)])
theorem KeysAt.step {w w' : World} {A : Option Addr} {n : Nat} {ks : List Nat} (h : KeysAt w A n ks) (hb : Below w.heap.size w w') : KeysAt w' A n ks := ⟨h.len, h.small, h.rows.step hb⟩
theorem KeysAt.get {w : World} {A : Option Addr} {n : Nat} {ks : List Nat} (h : KeysAt w A n ks) (i : Nat) (hi : i < n) : ∃ b off k, A = some ⟨b, off, none⟩ ∧ b < w.heap.size ∧ ks[i]? = some k ∧ k ≤ 255 ∧ w.cell? ⟨b, off + i, none⟩ = some (.int .u8 (k : Int)) := by
  obtain ⟨b, off, e, hb, hc⟩ := h.rows.cells (by rw [List.length_map, h.len]; omega)
  have hx : ks[i]? = some (ks[i]'(by rw [h.len]; exact hi)) := List.getElem?_eq_getElem _
  have := hc i _ (by rw [List.getElem?_map, hx]; rfl) 0 _ rfl
  rw [Nat.mul_one, Nat.add_zero] at this
  exact ⟨b, off, _, e, hb, hx, h.small _ (List.mem_of_getElem? hx), this⟩
end Go.Proofs.Ythngbakbiocadaa

/-
  Entries, and values of four words, held against each other.
-/
namespace Go.Proofs.Ythngbakbiocadaa
set_option maxRecDepth 100000
open Go.RowKit Go.Maps

def intVals (l : List Int) : List Value := l.map (Value.int .i64)
theorem infoI : ∃ i, Try.prog.info? 3 = some i := by
  have h : (Try.prog.info? 3).isSome = true := by kernel_rfl
  exact Option.isSome_iff_exists.1 h
theorem run_partI (w : World) (l : List Int) (i : Nat) (h : i < l.length) : (part 3 (intVals l).toArray i).run Try.prog w = .ok (.int .i64 l[i]) w := by
  have e : ((intVals l).toArray)[i]? = some (.int .i64 l[i]) := by
    rw [List.getElem?_toArray]
    unfold intVals
    rw [List.getElem?_map, List.getElem?_eq_getElem h]; rfl
  have ha : (isAgg 3).run Try.prog w = .ok false w := by kernel_rfl
  unfold part
  rw [Sem.run_bind, ha]
  simp only [Result.andThen_ok, e]
  rfl
theorem run_eqInts (w : World) (p q : List Int) (hl : p.length = q.length) (d : Nat) : ∀ (n i : Nat), i + n = p.length →
    (Op.eqItems (d + 1) 3 1 (intVals p).toArray (intVals q).toArray (List.range' i n)).run Try.prog w = .ok (decide (p.drop i = q.drop i)) w
  | 0, i, h => by
    rw [List.range'_zero, Op.eqItems, List.drop_of_length_le (by omega), List.drop_of_length_le (by omega)]; rfl
  | n + 1, i, h => by
    have hp : i < p.length := by omega
    have hq : i < q.length := by omega
    have e1 := run_partI w p i hp
    have e2 := run_partI w q i hq
    have e3 := run_equalIn_int (P := Try.prog) w d 3 .i64 .i64 p[i] q[i] Try.underlying3
    have ih := run_eqInts w p q hl d n (i + 1) (by omega)
    rw [List.range'_succ, Op.eqItems, Nat.mul_one]
    simp only [Sem.run_bind, e1, e2, e3, Result.andThen_ok]
    have dp : p.drop i = p[i] :: p.drop (i + 1) := List.drop_eq_getElem_cons hp
    have dq : q.drop i = q[i] :: q.drop (i + 1) := List.drop_eq_getElem_cons hq
    by_cases c : p[i] = q[i]
    · have c1 : (p[i] == q[i]) = true := by rw [c]; exact beq_self_eq_true _
      rw [c1]
      simp only [Bool.not_true, Bool.false_eq_true, if_false]
      rw [ih]
      congr 1
      rw [dp, dq, decide_eq_decide, c, List.cons.injEq]
      exact ⟨fun h => ⟨rfl, h⟩, fun h => h.2⟩
    · have c1 : (p[i] == q[i]) = false := beq_eq_false_iff_ne.2 c
      rw [c1]
      simp only [Bool.not_false, if_true]
      rw [Sem.run_pure]
      congr 1
      rw [dp, dq]
      symm
      rw [decide_eq_false_iff_not]
      intro e
      exact c (by injection e)
theorem run_eqFour (f : Nat) (t : TypeId) (ht : t = 60 ∨ t = 57) (w : World) (a b c d a' b' c' d' : Int) : (Op.equalIn (f + 2) t (.agg #[.int .i64 a, .int .i64 b, .int .i64 c, .int .i64 d]) (.agg #[.int .i64 a', .int .i64 b', .int .i64 c', .int .i64 d'])).run Try.prog w = .ok (decide ([a, b, c, d] = [a', b', c', d'])) w := by
  obtain ⟨i, hi⟩ := infoI
  have hu : Try.prog.underlying t = some (.array 4 3) := by
    rcases ht with rfl | rfl
    · exact Try.underlying60
    · exact Try.underlying57
  rw [run_equalIn_array w (f + 1) _ _ hu hi, cellsI, List.range_eq_range']
  exact run_eqInts w [a, b, c, d] [a', b', c', d'] rfl f 4 0 rfl
theorem run_neqw (x : Z.En) (w : World) : (binOp .neq 60 (.agg (wordsL x).toArray) (.agg (wordsL x).toArray)).run Try.prog w = .ok (.bool false) w := by
  obtain ⟨k, a, b, c, d⟩ := x
  unfold wordsL
  have h4 := run_eqFour 9998 60 (Or.inl rfl) w a b c d a b c d
  rw [decide_eq_true rfl] at h4
  go_simp
theorem run_negw (p q : Operand) (x : Z.En) (w : World) : (eqGuard .neq 60 p q (.agg (wordsL x).toArray) (.agg (wordsL x).toArray)).run Try.prog w = .ok () w := run_eqGuard_agg w .neq _ p q _ _ (by kernel_rfl)
theorem en_eq_iff (x y : Z.En) : x = y ↔ x.key = y.key ∧ [x.a, x.b, x.c, x.d] = [y.a, y.b, y.c, y.d] := by
  obtain ⟨a, b, c, d, e⟩ := x
  obtain ⟨p, q, r, s, t⟩ := y
  simp
theorem run_neq_en (w : World) (x y : Z.En) : (binOp .neq 59 (enV x) (enV y)).run Try.prog w = .ok (.bool (!decide (x = y))) w := by
  have e : decide (x = y) = decide (x.key = y.key ∧ [x.a, x.b, x.c, x.d] = [y.a, y.b, y.c, y.d]) := decide_eq_decide.2 (en_eq_iff x y)
  have h4 := run_eqFour 9997 57 (Or.inr rfl) w x.a x.b x.c x.d y.a y.b y.c y.d
  rw [e]
  unfold enV enL
  go_simp
  by_cases h1 : x.key = y.key <;> by_cases h2 : x.a = y.a <;> by_cases h3 : x.b = y.b <;> by_cases h4 : x.c = y.c <;> by_cases h5 : x.d = y.d <;> simp [h1, h2, h3, h4, h5]
theorem run_ngd_en (x y : Operand) (p q : Z.En) (w : World) : (eqGuard .neq 59 x y (enV p) (enV q)).run Try.prog w = .ok () w := run_eqGuard_agg w .neq _ x y _ _ (by kernel_rfl)
end Go.Proofs.Ythngbakbiocadaa
