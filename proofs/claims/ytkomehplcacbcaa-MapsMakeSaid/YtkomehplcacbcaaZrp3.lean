/-
  The document's Put of a new key, where there is room.
-/
import Derived.Test.YtkomehplcacbcaaZrk2
import Derived.BigQuiet
namespace Go.Proofs.Ytkomehplcacbcaa
open Go.RowKit Go.Maps

set_option maxRecDepth 100000 in
set_option maxHeartbeats 4000000 in
theorem rput_hash_room (base b : Nat) (sv : Value) (room : Nat) (l : List Z.En) (x : Z.En) (hp : Z.pos x.key l = none) (hr : l.length < room) (hr1 : 1 ≤ room) (w : World) (h : MpAt 67 (.bool false) w base b sv room l) (hn : l.length ≤ 1000) (hbase : base ≤ w.heap.size) :
    Calls Try.prog 11 #[.pointer (some ⟨b, 0, none⟩), .int .i64 x.key, .agg #[.int .i64 x.a, .int .i64 x.b, .int .i64 x.c, .int .i64 x.d]] w fun e w' => e = .returned (.int .i64 0) ∧ ∃ sv', MpTo 67 (.bool false) w base b sv room (l ++ [x]) w' sv' := by
  have S0 : Hid (InS 67 (.bool false) w base b sv room l w.heap.size (wordsL x) (w.alloc (.cells #[.int .i64 x.a, .int .i64 x.b, .int .i64 x.c, .int .i64 x.d] 38)) sv) := Lib.hid ⟨MpTo.self h ((Below.refl _ _).alloc (Nat.le_refl _) _), rowAt_new w (wordsL x) _, by rw [wordsL_length]; omega, fun hf => by (have := (h.foot hf).2; omega), Nat.le_refl _⟩
  have HF := Lib.hid (fun w => rat_any (.bool false) base b sv room l x.key w)
  have HBS := Lib.hid hbase
  have HL := Lib.hid hn
  have HP : Hid (Z.posI x.key l = -1) := Lib.hid (by unfold Z.posI; rw [hp])
  have hcmp : ¬ ((l.length : Int) = (room : Int)) := by omega
  have hcmpd : decide ((l.length : Int) = (room : Int)) = false := decide_eq_false hcmp
  have hcmpb : ((l.length : Int) == (room : Int)) = false := by simp; omega
  obtain ⟨A, c, rfl⟩ := owns_slice h.own
  have H0 : Hid (0 < l.length ∨ l.length < room) := Lib.hid (by omega)
  have HRM := Lib.hid hr
  have H1 := Lib.hid hr1
  clear h hp hbase hn hr hr1
  go_enter Try.func11, Try.ntmps11
  go_upto_region 1 with fail
  generalize w.alloc (.cells #[.int .i64 x.a, .int .i64 x.b, .int .i64 x.c, .int .i64 x.d] 38) = W1 at S0 ⊢
  have hc0 : W1.cell? ⟨b, 0, none⟩ = some (.bool false) := S0.out.way.at_.row.cell 0 _ rfl
  have hc1 : W1.cell? ⟨b, 1, none⟩ = some (.int .i64 (room : Int)) := S0.out.way.at_.row.cell 1 _ rfl
  have hc2 : W1.cell? ⟨b, 2, none⟩ = some (.slice A l.length c) := S0.out.way.at_.row.cell 2 _ rfl
  go_upto_region 8 with (go_at_call 27; refine (HF.out _ S0.out.way.at_ HL.out).mono ?_; rw [HP.out]; rintro e w2 ⟨rfl, rfl⟩)
  go_quiet (fail)
  have S2 := Lib.hid (S0.out.call (W' := W1.drewN nq) (below_drewN W1 nq))
  clear hc0 hc1 hc2 S0
  generalize W1.drewN nq = W2 at S2 ⊢
  have hc1 : W2.cell? ⟨b, 1, none⟩ = some (.int .i64 (room : Int)) := S2.out.way.at_.row.cell 1 _ rfl
  have hc2 : W2.cell? ⟨b, 2, none⟩ = some (.slice A l.length c) := S2.out.way.at_.row.cell 2 _ rfl
  go_upto_region 10 with fail
  go_quiet (fail)
  go_upto_region 12 with fail
  clear hc1 hc2 hcmp hcmpb hcmpd
  have S9 := Lib.hid (S2.out.call (W' := W2.drewN nq) (below_drewN W2 nq))
  have HLX := HL
  obtain ⟨wx, hwx⟩ : ∃ wx, wx = (W2.drewN nq).drew := ⟨_, rfl⟩
  have S1 := Lib.hid (S9.out.call (Below.refl _ _).drew)
  have hdr : Below wx.heap.size wx (W2.drewN nq).drew := by rw [hwx]; exact Below.refl _ _
  rw [← hwx] at S1
  have HDR := Lib.hid hdr
  have HM := Lib.hid S1.out.way.at_
  have HR := Lib.hid S1.out.row
  have HFAR := Lib.hid S1.out.far
  have HBW : Hid (base ≤ wx.heap.size) := Lib.hid (Nat.le_trans HBS.out S1.out.way.but.size)
  generalize w.heap.size = B at S1 HR HFAR ⊢
  clear hwx hdr
  refine wp_region_linm (RkS (.bool false) wx base b (.slice A l.length c) room l (l ++ [x]) x) (rkMay [5]) (fun i => i == 1 || i == 6 || i == 10 || i == 11 || i == 14) (fun qi => [(.pointer (some ⟨b, 0, none⟩)), undef, (.pointer (some ⟨b, 0, none⟩)), (.pointer (some ⟨b, 0, none⟩)), .pointer (some ⟨b, 2, none⟩), (.slice A l.length c), undef, .int .i64 x.key, .agg (wordsL x).toArray, .agg (enL x).toArray, undef, undef, (.pointer (some ⟨b, 0, none⟩)), .pointer (some ⟨b, 2, none⟩), undef].getD qi undef) (RK.p none none) (by kernel_rfl) (by kernel_rfl) (⟨HDR.out, fun v xs h => (by cases h), fun g h => (by cases h)⟩) (fun _ => rfl) ?_
  refine linm_step (i := 0) (d := some 89) (v := (.pointer (some ⟨b, 0, none⟩))) rfl rfl (by kernel_rfl) (by kernel_rfl) rfl rfl (ordm_value (by kernel_rfl) ?_) ?_
  · (intro _ w' _ _; go_simp)
  (try simp only [Act.put, List.setIfInBounds_toArray, List.set_cons_zero, List.set_cons_succ])
  refine linm_step (i := 2) (d := some 91) (v := (.pointer (some ⟨b, 0, none⟩))) rfl rfl (by kernel_rfl) (by kernel_rfl) rfl rfl (ordm_value (by kernel_rfl) ?_) ?_
  · (intro _ w' _ _; go_simp)
  (try simp only [Act.put, List.setIfInBounds_toArray, List.set_cons_zero, List.set_cons_succ])
  refine linm_step (i := 3) (d := some 92) (v := (.pointer (some ⟨b, 0, none⟩))) rfl rfl (by kernel_rfl) (by kernel_rfl) rfl rfl (ordm_value (by kernel_rfl) ?_) ?_
  · (intro _ w' _ _; go_simp)
  (try simp only [Act.put, List.setIfInBounds_toArray, List.set_cons_zero, List.set_cons_succ])
  refine linm_step (i := 4) (d := some 93) (v := .pointer (some ⟨b, 2, none⟩)) rfl rfl (by kernel_rfl) (by kernel_rfl) rfl rfl (ordm_value (by kernel_rfl) ?_) ?_
  · (intro _ w' _ _; go_simp)
  (try simp only [Act.put, List.setIfInBounds_toArray, List.set_cons_zero, List.set_cons_succ])
  refine linm_step (i := 5) (d := some 94) (v := (.slice A l.length c)) rfl rfl (by kernel_rfl) (by kernel_rfl) rfl rfl (ordm_value (by kernel_rfl) (fun s w' hm hS => rk_load HM.out (L := [5]) (k := 5) (by simp) hm hS (.tmp 93) rfl rfl)) ?_
  (try simp only [Act.put, List.setIfInBounds_toArray, List.set_cons_zero, List.set_cons_succ])
  refine linm_step (i := 7) (d := some 96) (v := .int .i64 x.key) rfl rfl (by kernel_rfl) (by kernel_rfl) rfl rfl (ordm_value (by kernel_rfl) ?_) ?_
  · (intro _ w' _ _; go_simp)
  (try simp only [Act.put, List.setIfInBounds_toArray, List.set_cons_zero, List.set_cons_succ])
  refine linm_step (i := 8) (d := some 97) (v := .agg (wordsL x).toArray) rfl rfl (by kernel_rfl) (by kernel_rfl) rfl rfl (ordm_value (by kernel_rfl) (fun s w' _ hS => run_ld_row rvalT (RkS.other HR.out HFAR.out hS) (wordsL_length x) (.tmp 5) rfl rfl)) ?_
  (try simp only [Act.put, List.setIfInBounds_toArray, List.set_cons_zero, List.set_cons_succ])
  refine linm_step (i := 9) (d := some 98) (v := .agg (enL x).toArray) rfl rfl (by kernel_rfl) (by kernel_rfl) rfl rfl (ordm_value (by kernel_rfl) ?_) ?_
  · (intro _ w' _ _; unfold enL wordsL; go_simp)
  (try simp only [Act.put, List.setIfInBounds_toArray, List.set_cons_zero, List.set_cons_succ])
  refine linm_fork2 1 10 (di := some 90) (dj := some 99) (fun u s => s = RK.p (some (u, [])) none) (fun u s => ∃ g, u = .slice (some ⟨g, 0, none⟩) 1 1 ∧ s = RK.p none (some g)) (by kernel_rfl) (by decide) rfl rfl rfl rfl rfl rfl (rkMay_no (fun u s' hu => ⟨_, _, hu⟩)) (rkMay_no (fun u s' hu => by obtain ⟨g, _, h⟩ := hu; exact ⟨_, _, h⟩)) (by kernel_rfl) (fun W hS => rk_empty hS (by go_simp)) (by kernel_rfl) (fun W hS => rk_one hS (.tmp 98) rfl rfl) ?_ ?_
  · rintro v0 s' rfl
    (try simp only [Act.put, List.setIfInBounds_toArray, List.set_cons_zero, List.set_cons_succ])
    refine linm_fork2 6 10 (di := some 95) (dj := some 99) (fun u s => s = RK.p (some (u, [] ++ l)) none) (fun u s => ∃ g, u = .slice (some ⟨g, 0, none⟩) 1 1 ∧ s = RK.p (some (v0, [])) (some g)) (by kernel_rfl) (by decide) rfl rfl rfl rfl rfl rfl (rkMay_no (fun u s' hu => ⟨_, _, hu⟩)) (rkMay_no (fun u s' hu => by obtain ⟨g, _, h⟩ := hu; exact ⟨_, _, h⟩)) (by kernel_rfl) (fun W hS => rk_all HM.out HLX.out hS (.tmp 90) (.tmp 94) rfl rfl rfl) (by kernel_rfl) (fun W hS => rk_one hS (.tmp 98) rfl rfl) ?_ ?_
    · rintro v1 s' rfl
      (try simp only [Act.put, List.setIfInBounds_toArray, List.set_cons_zero, List.set_cons_succ])
      refine linm_sole 10 (di := some 99) (fun u s => ∃ g, u = .slice (some ⟨g, 0, none⟩) 1 1 ∧ s = RK.p (some (v1, [] ++ l)) (some g)) (by kernel_rfl) rfl rfl rfl (rkMay_no (fun u s' hu => by obtain ⟨g, _, h⟩ := hu; exact ⟨_, _, h⟩)) (by kernel_rfl) (fun W hS => rk_one hS (.tmp 98) rfl rfl) ?_
      rintro _ s' ⟨g9, rfl, rfl⟩
      (try simp only [Act.put, List.setIfInBounds_toArray, List.set_cons_zero, List.set_cons_succ])
      refine linm_sole 11 (di := some 100) (fun u s => s = RK.p (some (u, [] ++ l ++ [x])) (some g9)) (by kernel_rfl) rfl rfl rfl (rkMay_no (fun u s' hu => ⟨_, _, hu⟩)) (by kernel_rfl) (fun W hS => rk_append (ys := [x]) hS (.tmp 95) (.tmp 99) rfl rfl ⟨g9, 0, none⟩ 1 1 rfl rfl (by rw [cellsE_sing]; exact (hS.2.2 g9 rfl).2.2.1) (by have := HLX.out; rw [List.nil_append]; omega)) ?_
      rintro v2 s' rfl
      (try simp only [Act.put, List.setIfInBounds_toArray, List.set_cons_zero, List.set_cons_succ])
      refine linm_step (i := 12) (d := some 101) (v := (.pointer (some ⟨b, 0, none⟩))) rfl rfl (by kernel_rfl) (by kernel_rfl) rfl rfl (ordm_value (by kernel_rfl) ?_) ?_
      · (intro _ w' _ _; go_simp)
      (try simp only [Act.put, List.setIfInBounds_toArray, List.set_cons_zero, List.set_cons_succ])
      refine linm_step (i := 13) (d := some 102) (v := .pointer (some ⟨b, 2, none⟩)) rfl rfl (by kernel_rfl) (by kernel_rfl) rfl rfl (ordm_value (by kernel_rfl) ?_) ?_
      · (intro _ w' _ _; go_simp)
      (try simp only [Act.put, List.setIfInBounds_toArray, List.set_cons_zero, List.set_cons_succ])
      refine linm_sole 14 (di := none) (fun _ s => s = RK.d v2) (by kernel_rfl) rfl rfl rfl (rkMay_last (by kernel_rfl)) (by kernel_rfl) (fun W hS => rk_store HM.out HBW.out hS (by rw [List.nil_append]) (.tmp 102) (.tmp 100) rfl rfl rfl) ?_
      rintro u s' rfl
      (try simp only [Act.put, List.setIfInBounds_toArray, List.set_cons_zero, List.set_cons_succ])
      refine linm_done (by kernel_rfl) ?_
      intro W hS
      have HF2 := Lib.hid (S1.out.way.trans (show MpTo 67 (.bool false) wx base b (.slice A l.length c) room (l ++ [x]) W v2 from hS))
      clear hS
      go_wp2
      refine bodyPost_ret (results_tmp rfl _ _ _) rfl ?_
      exact ⟨rfl, v2, HF2.out⟩
    · rintro _ s' ⟨g9, rfl, rfl⟩
      (try simp only [Act.put, List.setIfInBounds_toArray, List.set_cons_zero, List.set_cons_succ])
      refine linm_sole 6 (di := some 95) (fun u s => s = RK.p (some (u, [] ++ l)) (some g9)) (by kernel_rfl) rfl rfl rfl (rkMay_no (fun u s' hu => ⟨_, _, hu⟩)) (by kernel_rfl) (fun W hS => rk_all HM.out HLX.out hS (.tmp 90) (.tmp 94) rfl rfl rfl) ?_
      rintro v1 s' rfl
      (try simp only [Act.put, List.setIfInBounds_toArray, List.set_cons_zero, List.set_cons_succ])
      refine linm_sole 11 (di := some 100) (fun u s => s = RK.p (some (u, [] ++ l ++ [x])) (some g9)) (by kernel_rfl) rfl rfl rfl (rkMay_no (fun u s' hu => ⟨_, _, hu⟩)) (by kernel_rfl) (fun W hS => rk_append (ys := [x]) hS (.tmp 95) (.tmp 99) rfl rfl ⟨g9, 0, none⟩ 1 1 rfl rfl (by rw [cellsE_sing]; exact (hS.2.2 g9 rfl).2.2.1) (by have := HLX.out; rw [List.nil_append]; omega)) ?_
      rintro v2 s' rfl
      (try simp only [Act.put, List.setIfInBounds_toArray, List.set_cons_zero, List.set_cons_succ])
      refine linm_step (i := 12) (d := some 101) (v := (.pointer (some ⟨b, 0, none⟩))) rfl rfl (by kernel_rfl) (by kernel_rfl) rfl rfl (ordm_value (by kernel_rfl) ?_) ?_
      · (intro _ w' _ _; go_simp)
      (try simp only [Act.put, List.setIfInBounds_toArray, List.set_cons_zero, List.set_cons_succ])
      refine linm_step (i := 13) (d := some 102) (v := .pointer (some ⟨b, 2, none⟩)) rfl rfl (by kernel_rfl) (by kernel_rfl) rfl rfl (ordm_value (by kernel_rfl) ?_) ?_
      · (intro _ w' _ _; go_simp)
      (try simp only [Act.put, List.setIfInBounds_toArray, List.set_cons_zero, List.set_cons_succ])
      refine linm_sole 14 (di := none) (fun _ s => s = RK.d v2) (by kernel_rfl) rfl rfl rfl (rkMay_last (by kernel_rfl)) (by kernel_rfl) (fun W hS => rk_store HM.out HBW.out hS (by rw [List.nil_append]) (.tmp 102) (.tmp 100) rfl rfl rfl) ?_
      rintro u s' rfl
      (try simp only [Act.put, List.setIfInBounds_toArray, List.set_cons_zero, List.set_cons_succ])
      refine linm_done (by kernel_rfl) ?_
      intro W hS
      have HF2 := Lib.hid (S1.out.way.trans (show MpTo 67 (.bool false) wx base b (.slice A l.length c) room (l ++ [x]) W v2 from hS))
      clear hS
      go_wp2
      refine bodyPost_ret (results_tmp rfl _ _ _) rfl ?_
      exact ⟨rfl, v2, HF2.out⟩
  · rintro _ s' ⟨g9, rfl, rfl⟩
    (try simp only [Act.put, List.setIfInBounds_toArray, List.set_cons_zero, List.set_cons_succ])
    refine linm_sole 1 (di := some 90) (fun u s => s = RK.p (some (u, [])) (some g9)) (by kernel_rfl) rfl rfl rfl (rkMay_no (fun u s' hu => ⟨_, _, hu⟩)) (by kernel_rfl) (fun W hS => rk_empty hS (by go_simp)) ?_
    rintro v0 s' rfl
    (try simp only [Act.put, List.setIfInBounds_toArray, List.set_cons_zero, List.set_cons_succ])
    refine linm_sole 6 (di := some 95) (fun u s => s = RK.p (some (u, [] ++ l)) (some g9)) (by kernel_rfl) rfl rfl rfl (rkMay_no (fun u s' hu => ⟨_, _, hu⟩)) (by kernel_rfl) (fun W hS => rk_all HM.out HLX.out hS (.tmp 90) (.tmp 94) rfl rfl rfl) ?_
    rintro v1 s' rfl
    (try simp only [Act.put, List.setIfInBounds_toArray, List.set_cons_zero, List.set_cons_succ])
    refine linm_sole 11 (di := some 100) (fun u s => s = RK.p (some (u, [] ++ l ++ [x])) (some g9)) (by kernel_rfl) rfl rfl rfl (rkMay_no (fun u s' hu => ⟨_, _, hu⟩)) (by kernel_rfl) (fun W hS => rk_append (ys := [x]) hS (.tmp 95) (.tmp 99) rfl rfl ⟨g9, 0, none⟩ 1 1 rfl rfl (by rw [cellsE_sing]; exact (hS.2.2 g9 rfl).2.2.1) (by have := HLX.out; rw [List.nil_append]; omega)) ?_
    rintro v2 s' rfl
    (try simp only [Act.put, List.setIfInBounds_toArray, List.set_cons_zero, List.set_cons_succ])
    refine linm_step (i := 12) (d := some 101) (v := (.pointer (some ⟨b, 0, none⟩))) rfl rfl (by kernel_rfl) (by kernel_rfl) rfl rfl (ordm_value (by kernel_rfl) ?_) ?_
    · (intro _ w' _ _; go_simp)
    (try simp only [Act.put, List.setIfInBounds_toArray, List.set_cons_zero, List.set_cons_succ])
    refine linm_step (i := 13) (d := some 102) (v := .pointer (some ⟨b, 2, none⟩)) rfl rfl (by kernel_rfl) (by kernel_rfl) rfl rfl (ordm_value (by kernel_rfl) ?_) ?_
    · (intro _ w' _ _; go_simp)
    (try simp only [Act.put, List.setIfInBounds_toArray, List.set_cons_zero, List.set_cons_succ])
    refine linm_sole 14 (di := none) (fun _ s => s = RK.d v2) (by kernel_rfl) rfl rfl rfl (rkMay_last (by kernel_rfl)) (by kernel_rfl) (fun W hS => rk_store HM.out HBW.out hS (by rw [List.nil_append]) (.tmp 102) (.tmp 100) rfl rfl rfl) ?_
    rintro u s' rfl
    (try simp only [Act.put, List.setIfInBounds_toArray, List.set_cons_zero, List.set_cons_succ])
    refine linm_done (by kernel_rfl) ?_
    intro W hS
    have HF2 := Lib.hid (S1.out.way.trans (show MpTo 67 (.bool false) wx base b (.slice A l.length c) room (l ++ [x]) W v2 from hS))
    clear hS
    go_wp2
    refine bodyPost_ret (results_tmp rfl _ _ _) rfl ?_
    exact ⟨rfl, v2, HF2.out⟩
set_option maxRecDepth 100000 in
set_option maxHeartbeats 4000000 in
theorem rput_lru_room (base b : Nat) (sv : Value) (room : Nat) (l : List Z.En) (x : Z.En) (hp : Z.pos x.key l = none) (hr : l.length < room) (hr1 : 1 ≤ room) (w : World) (h : MpAt 67 (.bool true) w base b sv room l) (hn : l.length ≤ 1000) (hbase : base ≤ w.heap.size) :
    Calls Try.prog 11 #[.pointer (some ⟨b, 0, none⟩), .int .i64 x.key, .agg #[.int .i64 x.a, .int .i64 x.b, .int .i64 x.c, .int .i64 x.d]] w fun e w' => e = .returned (.int .i64 0) ∧ ∃ sv', MpTo 67 (.bool true) w base b sv room (l ++ [x]) w' sv' := by
  have S0 : Hid (InS 67 (.bool true) w base b sv room l w.heap.size (wordsL x) (w.alloc (.cells #[.int .i64 x.a, .int .i64 x.b, .int .i64 x.c, .int .i64 x.d] 38)) sv) := Lib.hid ⟨MpTo.self h ((Below.refl _ _).alloc (Nat.le_refl _) _), rowAt_new w (wordsL x) _, by rw [wordsL_length]; omega, fun hf => by (have := (h.foot hf).2; omega), Nat.le_refl _⟩
  have HF := Lib.hid (fun w => rat_any (.bool true) base b sv room l x.key w)
  have HBS := Lib.hid hbase
  have HL := Lib.hid hn
  have HP : Hid (Z.posI x.key l = -1) := Lib.hid (by unfold Z.posI; rw [hp])
  have hcmp : ¬ ((l.length : Int) = (room : Int)) := by omega
  have hcmpd : decide ((l.length : Int) = (room : Int)) = false := decide_eq_false hcmp
  have hcmpb : ((l.length : Int) == (room : Int)) = false := by simp; omega
  obtain ⟨A, c, rfl⟩ := owns_slice h.own
  have H0 : Hid (0 < l.length ∨ l.length < room) := Lib.hid (by omega)
  have HRM := Lib.hid hr
  have H1 := Lib.hid hr1
  clear h hp hbase hn hr hr1
  go_enter Try.func11, Try.ntmps11
  go_upto_region 1 with fail
  generalize w.alloc (.cells #[.int .i64 x.a, .int .i64 x.b, .int .i64 x.c, .int .i64 x.d] 38) = W1 at S0 ⊢
  have hc0 : W1.cell? ⟨b, 0, none⟩ = some (.bool true) := S0.out.way.at_.row.cell 0 _ rfl
  have hc1 : W1.cell? ⟨b, 1, none⟩ = some (.int .i64 (room : Int)) := S0.out.way.at_.row.cell 1 _ rfl
  have hc2 : W1.cell? ⟨b, 2, none⟩ = some (.slice A l.length c) := S0.out.way.at_.row.cell 2 _ rfl
  go_upto_region 8 with (go_at_call 27; refine (HF.out _ S0.out.way.at_ HL.out).mono ?_; rw [HP.out]; rintro e w2 ⟨rfl, rfl⟩)
  go_quiet (fail)
  have S2 := Lib.hid (S0.out.call (W' := W1.drewN nq) (below_drewN W1 nq))
  clear hc0 hc1 hc2 S0
  generalize W1.drewN nq = W2 at S2 ⊢
  have hc1 : W2.cell? ⟨b, 1, none⟩ = some (.int .i64 (room : Int)) := S2.out.way.at_.row.cell 1 _ rfl
  have hc2 : W2.cell? ⟨b, 2, none⟩ = some (.slice A l.length c) := S2.out.way.at_.row.cell 2 _ rfl
  go_upto_region 10 with fail
  go_quiet (fail)
  go_upto_region 12 with fail
  clear hc1 hc2 hcmp hcmpb hcmpd
  have S9 := Lib.hid (S2.out.call (W' := W2.drewN nq) (below_drewN W2 nq))
  have HLX := HL
  obtain ⟨wx, hwx⟩ : ∃ wx, wx = (W2.drewN nq).drew := ⟨_, rfl⟩
  have S1 := Lib.hid (S9.out.call (Below.refl _ _).drew)
  have hdr : Below wx.heap.size wx (W2.drewN nq).drew := by rw [hwx]; exact Below.refl _ _
  rw [← hwx] at S1
  have HDR := Lib.hid hdr
  have HM := Lib.hid S1.out.way.at_
  have HR := Lib.hid S1.out.row
  have HFAR := Lib.hid S1.out.far
  have HBW : Hid (base ≤ wx.heap.size) := Lib.hid (Nat.le_trans HBS.out S1.out.way.but.size)
  generalize w.heap.size = B at S1 HR HFAR ⊢
  clear hwx hdr
  refine wp_region_linm (RkS (.bool true) wx base b (.slice A l.length c) room l (l ++ [x]) x) (rkMay [5]) (fun i => i == 1 || i == 6 || i == 10 || i == 11 || i == 14) (fun qi => [(.pointer (some ⟨b, 0, none⟩)), undef, (.pointer (some ⟨b, 0, none⟩)), (.pointer (some ⟨b, 0, none⟩)), .pointer (some ⟨b, 2, none⟩), (.slice A l.length c), undef, .int .i64 x.key, .agg (wordsL x).toArray, .agg (enL x).toArray, undef, undef, (.pointer (some ⟨b, 0, none⟩)), .pointer (some ⟨b, 2, none⟩), undef].getD qi undef) (RK.p none none) (by kernel_rfl) (by kernel_rfl) (⟨HDR.out, fun v xs h => (by cases h), fun g h => (by cases h)⟩) (fun _ => rfl) ?_
  refine linm_step (i := 0) (d := some 89) (v := (.pointer (some ⟨b, 0, none⟩))) rfl rfl (by kernel_rfl) (by kernel_rfl) rfl rfl (ordm_value (by kernel_rfl) ?_) ?_
  · (intro _ w' _ _; go_simp)
  (try simp only [Act.put, List.setIfInBounds_toArray, List.set_cons_zero, List.set_cons_succ])
  refine linm_step (i := 2) (d := some 91) (v := (.pointer (some ⟨b, 0, none⟩))) rfl rfl (by kernel_rfl) (by kernel_rfl) rfl rfl (ordm_value (by kernel_rfl) ?_) ?_
  · (intro _ w' _ _; go_simp)
  (try simp only [Act.put, List.setIfInBounds_toArray, List.set_cons_zero, List.set_cons_succ])
  refine linm_step (i := 3) (d := some 92) (v := (.pointer (some ⟨b, 0, none⟩))) rfl rfl (by kernel_rfl) (by kernel_rfl) rfl rfl (ordm_value (by kernel_rfl) ?_) ?_
  · (intro _ w' _ _; go_simp)
  (try simp only [Act.put, List.setIfInBounds_toArray, List.set_cons_zero, List.set_cons_succ])
  refine linm_step (i := 4) (d := some 93) (v := .pointer (some ⟨b, 2, none⟩)) rfl rfl (by kernel_rfl) (by kernel_rfl) rfl rfl (ordm_value (by kernel_rfl) ?_) ?_
  · (intro _ w' _ _; go_simp)
  (try simp only [Act.put, List.setIfInBounds_toArray, List.set_cons_zero, List.set_cons_succ])
  refine linm_step (i := 5) (d := some 94) (v := (.slice A l.length c)) rfl rfl (by kernel_rfl) (by kernel_rfl) rfl rfl (ordm_value (by kernel_rfl) (fun s w' hm hS => rk_load HM.out (L := [5]) (k := 5) (by simp) hm hS (.tmp 93) rfl rfl)) ?_
  (try simp only [Act.put, List.setIfInBounds_toArray, List.set_cons_zero, List.set_cons_succ])
  refine linm_step (i := 7) (d := some 96) (v := .int .i64 x.key) rfl rfl (by kernel_rfl) (by kernel_rfl) rfl rfl (ordm_value (by kernel_rfl) ?_) ?_
  · (intro _ w' _ _; go_simp)
  (try simp only [Act.put, List.setIfInBounds_toArray, List.set_cons_zero, List.set_cons_succ])
  refine linm_step (i := 8) (d := some 97) (v := .agg (wordsL x).toArray) rfl rfl (by kernel_rfl) (by kernel_rfl) rfl rfl (ordm_value (by kernel_rfl) (fun s w' _ hS => run_ld_row rvalT (RkS.other HR.out HFAR.out hS) (wordsL_length x) (.tmp 5) rfl rfl)) ?_
  (try simp only [Act.put, List.setIfInBounds_toArray, List.set_cons_zero, List.set_cons_succ])
  refine linm_step (i := 9) (d := some 98) (v := .agg (enL x).toArray) rfl rfl (by kernel_rfl) (by kernel_rfl) rfl rfl (ordm_value (by kernel_rfl) ?_) ?_
  · (intro _ w' _ _; unfold enL wordsL; go_simp)
  (try simp only [Act.put, List.setIfInBounds_toArray, List.set_cons_zero, List.set_cons_succ])
  refine linm_fork2 1 10 (di := some 90) (dj := some 99) (fun u s => s = RK.p (some (u, [])) none) (fun u s => ∃ g, u = .slice (some ⟨g, 0, none⟩) 1 1 ∧ s = RK.p none (some g)) (by kernel_rfl) (by decide) rfl rfl rfl rfl rfl rfl (rkMay_no (fun u s' hu => ⟨_, _, hu⟩)) (rkMay_no (fun u s' hu => by obtain ⟨g, _, h⟩ := hu; exact ⟨_, _, h⟩)) (by kernel_rfl) (fun W hS => rk_empty hS (by go_simp)) (by kernel_rfl) (fun W hS => rk_one hS (.tmp 98) rfl rfl) ?_ ?_
  · rintro v0 s' rfl
    (try simp only [Act.put, List.setIfInBounds_toArray, List.set_cons_zero, List.set_cons_succ])
    refine linm_fork2 6 10 (di := some 95) (dj := some 99) (fun u s => s = RK.p (some (u, [] ++ l)) none) (fun u s => ∃ g, u = .slice (some ⟨g, 0, none⟩) 1 1 ∧ s = RK.p (some (v0, [])) (some g)) (by kernel_rfl) (by decide) rfl rfl rfl rfl rfl rfl (rkMay_no (fun u s' hu => ⟨_, _, hu⟩)) (rkMay_no (fun u s' hu => by obtain ⟨g, _, h⟩ := hu; exact ⟨_, _, h⟩)) (by kernel_rfl) (fun W hS => rk_all HM.out HLX.out hS (.tmp 90) (.tmp 94) rfl rfl rfl) (by kernel_rfl) (fun W hS => rk_one hS (.tmp 98) rfl rfl) ?_ ?_
    · rintro v1 s' rfl
      (try simp only [Act.put, List.setIfInBounds_toArray, List.set_cons_zero, List.set_cons_succ])
      refine linm_sole 10 (di := some 99) (fun u s => ∃ g, u = .slice (some ⟨g, 0, none⟩) 1 1 ∧ s = RK.p (some (v1, [] ++ l)) (some g)) (by kernel_rfl) rfl rfl rfl (rkMay_no (fun u s' hu => by obtain ⟨g, _, h⟩ := hu; exact ⟨_, _, h⟩)) (by kernel_rfl) (fun W hS => rk_one hS (.tmp 98) rfl rfl) ?_
      rintro _ s' ⟨g9, rfl, rfl⟩
      (try simp only [Act.put, List.setIfInBounds_toArray, List.set_cons_zero, List.set_cons_succ])
      refine linm_sole 11 (di := some 100) (fun u s => s = RK.p (some (u, [] ++ l ++ [x])) (some g9)) (by kernel_rfl) rfl rfl rfl (rkMay_no (fun u s' hu => ⟨_, _, hu⟩)) (by kernel_rfl) (fun W hS => rk_append (ys := [x]) hS (.tmp 95) (.tmp 99) rfl rfl ⟨g9, 0, none⟩ 1 1 rfl rfl (by rw [cellsE_sing]; exact (hS.2.2 g9 rfl).2.2.1) (by have := HLX.out; rw [List.nil_append]; omega)) ?_
      rintro v2 s' rfl
      (try simp only [Act.put, List.setIfInBounds_toArray, List.set_cons_zero, List.set_cons_succ])
      refine linm_step (i := 12) (d := some 101) (v := (.pointer (some ⟨b, 0, none⟩))) rfl rfl (by kernel_rfl) (by kernel_rfl) rfl rfl (ordm_value (by kernel_rfl) ?_) ?_
      · (intro _ w' _ _; go_simp)
      (try simp only [Act.put, List.setIfInBounds_toArray, List.set_cons_zero, List.set_cons_succ])
      refine linm_step (i := 13) (d := some 102) (v := .pointer (some ⟨b, 2, none⟩)) rfl rfl (by kernel_rfl) (by kernel_rfl) rfl rfl (ordm_value (by kernel_rfl) ?_) ?_
      · (intro _ w' _ _; go_simp)
      (try simp only [Act.put, List.setIfInBounds_toArray, List.set_cons_zero, List.set_cons_succ])
      refine linm_sole 14 (di := none) (fun _ s => s = RK.d v2) (by kernel_rfl) rfl rfl rfl (rkMay_last (by kernel_rfl)) (by kernel_rfl) (fun W hS => rk_store HM.out HBW.out hS (by rw [List.nil_append]) (.tmp 102) (.tmp 100) rfl rfl rfl) ?_
      rintro u s' rfl
      (try simp only [Act.put, List.setIfInBounds_toArray, List.set_cons_zero, List.set_cons_succ])
      refine linm_done (by kernel_rfl) ?_
      intro W hS
      have HF2 := Lib.hid (S1.out.way.trans (show MpTo 67 (.bool true) wx base b (.slice A l.length c) room (l ++ [x]) W v2 from hS))
      clear hS
      go_wp2
      refine bodyPost_ret (results_tmp rfl _ _ _) rfl ?_
      exact ⟨rfl, v2, HF2.out⟩
    · rintro _ s' ⟨g9, rfl, rfl⟩
      (try simp only [Act.put, List.setIfInBounds_toArray, List.set_cons_zero, List.set_cons_succ])
      refine linm_sole 6 (di := some 95) (fun u s => s = RK.p (some (u, [] ++ l)) (some g9)) (by kernel_rfl) rfl rfl rfl (rkMay_no (fun u s' hu => ⟨_, _, hu⟩)) (by kernel_rfl) (fun W hS => rk_all HM.out HLX.out hS (.tmp 90) (.tmp 94) rfl rfl rfl) ?_
      rintro v1 s' rfl
      (try simp only [Act.put, List.setIfInBounds_toArray, List.set_cons_zero, List.set_cons_succ])
      refine linm_sole 11 (di := some 100) (fun u s => s = RK.p (some (u, [] ++ l ++ [x])) (some g9)) (by kernel_rfl) rfl rfl rfl (rkMay_no (fun u s' hu => ⟨_, _, hu⟩)) (by kernel_rfl) (fun W hS => rk_append (ys := [x]) hS (.tmp 95) (.tmp 99) rfl rfl ⟨g9, 0, none⟩ 1 1 rfl rfl (by rw [cellsE_sing]; exact (hS.2.2 g9 rfl).2.2.1) (by have := HLX.out; rw [List.nil_append]; omega)) ?_
      rintro v2 s' rfl
      (try simp only [Act.put, List.setIfInBounds_toArray, List.set_cons_zero, List.set_cons_succ])
      refine linm_step (i := 12) (d := some 101) (v := (.pointer (some ⟨b, 0, none⟩))) rfl rfl (by kernel_rfl) (by kernel_rfl) rfl rfl (ordm_value (by kernel_rfl) ?_) ?_
      · (intro _ w' _ _; go_simp)
      (try simp only [Act.put, List.setIfInBounds_toArray, List.set_cons_zero, List.set_cons_succ])
      refine linm_step (i := 13) (d := some 102) (v := .pointer (some ⟨b, 2, none⟩)) rfl rfl (by kernel_rfl) (by kernel_rfl) rfl rfl (ordm_value (by kernel_rfl) ?_) ?_
      · (intro _ w' _ _; go_simp)
      (try simp only [Act.put, List.setIfInBounds_toArray, List.set_cons_zero, List.set_cons_succ])
      refine linm_sole 14 (di := none) (fun _ s => s = RK.d v2) (by kernel_rfl) rfl rfl rfl (rkMay_last (by kernel_rfl)) (by kernel_rfl) (fun W hS => rk_store HM.out HBW.out hS (by rw [List.nil_append]) (.tmp 102) (.tmp 100) rfl rfl rfl) ?_
      rintro u s' rfl
      (try simp only [Act.put, List.setIfInBounds_toArray, List.set_cons_zero, List.set_cons_succ])
      refine linm_done (by kernel_rfl) ?_
      intro W hS
      have HF2 := Lib.hid (S1.out.way.trans (show MpTo 67 (.bool true) wx base b (.slice A l.length c) room (l ++ [x]) W v2 from hS))
      clear hS
      go_wp2
      refine bodyPost_ret (results_tmp rfl _ _ _) rfl ?_
      exact ⟨rfl, v2, HF2.out⟩
  · rintro _ s' ⟨g9, rfl, rfl⟩
    (try simp only [Act.put, List.setIfInBounds_toArray, List.set_cons_zero, List.set_cons_succ])
    refine linm_sole 1 (di := some 90) (fun u s => s = RK.p (some (u, [])) (some g9)) (by kernel_rfl) rfl rfl rfl (rkMay_no (fun u s' hu => ⟨_, _, hu⟩)) (by kernel_rfl) (fun W hS => rk_empty hS (by go_simp)) ?_
    rintro v0 s' rfl
    (try simp only [Act.put, List.setIfInBounds_toArray, List.set_cons_zero, List.set_cons_succ])
    refine linm_sole 6 (di := some 95) (fun u s => s = RK.p (some (u, [] ++ l)) (some g9)) (by kernel_rfl) rfl rfl rfl (rkMay_no (fun u s' hu => ⟨_, _, hu⟩)) (by kernel_rfl) (fun W hS => rk_all HM.out HLX.out hS (.tmp 90) (.tmp 94) rfl rfl rfl) ?_
    rintro v1 s' rfl
    (try simp only [Act.put, List.setIfInBounds_toArray, List.set_cons_zero, List.set_cons_succ])
    refine linm_sole 11 (di := some 100) (fun u s => s = RK.p (some (u, [] ++ l ++ [x])) (some g9)) (by kernel_rfl) rfl rfl rfl (rkMay_no (fun u s' hu => ⟨_, _, hu⟩)) (by kernel_rfl) (fun W hS => rk_append (ys := [x]) hS (.tmp 95) (.tmp 99) rfl rfl ⟨g9, 0, none⟩ 1 1 rfl rfl (by rw [cellsE_sing]; exact (hS.2.2 g9 rfl).2.2.1) (by have := HLX.out; rw [List.nil_append]; omega)) ?_
    rintro v2 s' rfl
    (try simp only [Act.put, List.setIfInBounds_toArray, List.set_cons_zero, List.set_cons_succ])
    refine linm_step (i := 12) (d := some 101) (v := (.pointer (some ⟨b, 0, none⟩))) rfl rfl (by kernel_rfl) (by kernel_rfl) rfl rfl (ordm_value (by kernel_rfl) ?_) ?_
    · (intro _ w' _ _; go_simp)
    (try simp only [Act.put, List.setIfInBounds_toArray, List.set_cons_zero, List.set_cons_succ])
    refine linm_step (i := 13) (d := some 102) (v := .pointer (some ⟨b, 2, none⟩)) rfl rfl (by kernel_rfl) (by kernel_rfl) rfl rfl (ordm_value (by kernel_rfl) ?_) ?_
    · (intro _ w' _ _; go_simp)
    (try simp only [Act.put, List.setIfInBounds_toArray, List.set_cons_zero, List.set_cons_succ])
    refine linm_sole 14 (di := none) (fun _ s => s = RK.d v2) (by kernel_rfl) rfl rfl rfl (rkMay_last (by kernel_rfl)) (by kernel_rfl) (fun W hS => rk_store HM.out HBW.out hS (by rw [List.nil_append]) (.tmp 102) (.tmp 100) rfl rfl rfl) ?_
    rintro u s' rfl
    (try simp only [Act.put, List.setIfInBounds_toArray, List.set_cons_zero, List.set_cons_succ])
    refine linm_done (by kernel_rfl) ?_
    intro W hS
    have HF2 := Lib.hid (S1.out.way.trans (show MpTo 67 (.bool true) wx base b (.slice A l.length c) room (l ++ [x]) W v2 from hS))
    clear hS
    go_wp2
    refine bodyPost_ret (results_tmp rfl _ _ _) rfl ?_
    exact ⟨rfl, v2, HF2.out⟩
end Go.Proofs.Ytkomehplcacbcaa
