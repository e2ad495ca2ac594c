/-
  Put: a key's value is set.
-/
import Derived.Test.YthngbakbiocadaaMc
import Derived.BigQuiet

namespace Go.Proofs.Ythngbakbiocadaa
set_option maxRecDepth 100000
open Go.RowKit Go.Maps

set_option maxRecDepth 100000 in
set_option maxHeartbeats 2000000 in
theorem put_hash_room (base b : Nat) (sv : Value) (room : Nat) (l : List Z.En) (x : Z.En) (w : World) (h : MpAt 74 (kd false) w base b sv room l) (hp : Z.pos x.key l = none) (hn : l.length ≤ 1000) (hr : l.length < room) (hr1 : 1 ≤ room) (hbase : base ≤ w.heap.size) :
    Calls Try.prog 25 #[.pointer (some ⟨b, 0, none⟩), .int .i64 x.key, .agg #[.int .i64 x.a, .int .i64 x.b, .int .i64 x.c, .int .i64 x.d]] w fun e w' => e = .returned (.int .i64 0) ∧ ∃ sv', MpTo 74 (kd false) w base b sv room (l ++ [x]) w' sv' := by
  have S0 : Hid (InS 74 (kd false) w base b sv room l w.heap.size (wordsL x) (w.alloc (.cells #[.int .i64 x.a, .int .i64 x.b, .int .i64 x.c, .int .i64 x.d] 60)) sv) := Lib.hid ⟨MpTo.self h ((Below.refl _ _).alloc (Nat.le_refl _) _), rowAt_new w (wordsL x) _, by rw [wordsL_length]; omega, fun hf => by (have := (h.foot hf).2; omega), Nat.le_refl _⟩
  have HF := Lib.hid (fun w => find_any (kd false) base b sv room l x.key w)
  have HBS := Lib.hid hbase
  have HP : Hid (Z.posI x.key l = -1) := Lib.hid (by unfold Z.posI; rw [hp])
  have HL := Lib.hid hn
  have hcmp : ¬ ((room : Int) ≤ (l.length : Int)) := by omega
  obtain ⟨A, c, rfl⟩ := owns_slice h.own
  have H1 := Lib.hid hr1
  have HRM := Lib.hid hr
  clear h hp hbase hn hr hr1
  go_enter Try.func25, Try.ntmps25
  go_upto_region 1 with fail
  generalize w.alloc (.cells #[.int .i64 x.a, .int .i64 x.b, .int .i64 x.c, .int .i64 x.d] 60) = W1 at S0 ⊢
  go_upto_region 8 with (go_at_call 32; refine (HF.out _ S0.out.way.at_ HL.out).mono ?_; rw [HP.out]; rintro e w2 ⟨rfl, hb⟩; have S := Lib.hid (S0.out.call hb); clear hb S0)
  have hc2 := S.out.way.at_.row.cell 2 _ rfl
  have hc1 := S.out.way.at_.row.cell 1 _ rfl
  go_quiet (fail)
  go_upto_region 12 with fail
  clear hc1 hc2 hcmp
  have S9 := Lib.hid (S.out.call (W' := w2.drewN nq) (below_drewN w2 nq))
  clear S
  obtain ⟨wx, hwx⟩ : ∃ wx, wx = (w2.drewN nq).drew := ⟨_, rfl⟩
  have S1 := Lib.hid (S9.out.call (Below.refl _ _).drew)
  have HWX := Lib.hid hwx
  rw [← hwx] at S1
  have HM := Lib.hid S1.out.way.at_
  have HR := Lib.hid S1.out.row
  have HFAR := Lib.hid S1.out.far
  have HBW : Hid (base ≤ wx.heap.size) := Lib.hid (Nat.le_trans HBS.out S1.out.way.but.size)
  generalize w.heap.size = B at S1 HR HFAR ⊢
  clear hwx S9
  have HN : Hid (l.length ≤ 1000) := Lib.hid (by first | exact HL.out | (rw [List.length_eraseIdx]; have := HL.out; split <;> omega))
  refine wp_region_linm (ApS 74 (kd false) wx base b (.slice A l.length c) room l x) (apMay 4) (fun i => i == 8 || i == 9 || i == 12) (fun i => [(.pointer (some ⟨b, 0, none⟩)), (.pointer (some ⟨b, 0, none⟩)), (.pointer (some ⟨b, 0, none⟩)), .pointer (some ⟨b, 2, none⟩), (.slice A l.length c), .int .i64 x.key, .agg (wordsL x).toArray, .agg (enL x).toArray, undef, undef, .pointer (some ⟨b, 0, none⟩), .pointer (some ⟨b, 2, none⟩), undef].getD i undef) (PK.a) (by kernel_rfl) (by kernel_rfl) (HWX.out.symm) (fun _ => rfl) ?_
  refine linm_step (i := 0) (d := some 43) (v := (.pointer (some ⟨b, 0, none⟩))) rfl rfl (by kernel_rfl) (by kernel_rfl) rfl rfl (ordm_value (by kernel_rfl) ?_) ?_
  · (intro _ w' _ _; go_simp)
  (try simp only [Act.put, List.setIfInBounds_toArray, List.set_cons_zero, List.set_cons_succ])
  refine linm_step (i := 1) (d := some 44) (v := (.pointer (some ⟨b, 0, none⟩))) rfl rfl (by kernel_rfl) (by kernel_rfl) rfl rfl (ordm_value (by kernel_rfl) ?_) ?_
  · (intro _ w' _ _; go_simp)
  (try simp only [Act.put, List.setIfInBounds_toArray, List.set_cons_zero, List.set_cons_succ])
  refine linm_step (i := 2) (d := some 45) (v := (.pointer (some ⟨b, 0, none⟩))) rfl rfl (by kernel_rfl) (by kernel_rfl) rfl rfl (ordm_value (by kernel_rfl) ?_) ?_
  · (intro _ w' _ _; go_simp)
  (try simp only [Act.put, List.setIfInBounds_toArray, List.set_cons_zero, List.set_cons_succ])
  refine linm_step (i := 3) (d := some 46) (v := .pointer (some ⟨b, 2, none⟩)) rfl rfl (by kernel_rfl) (by kernel_rfl) rfl rfl (ordm_value (by kernel_rfl) ?_) ?_
  · (intro _ w' _ _; go_simp)
  (try simp only [Act.put, List.setIfInBounds_toArray, List.set_cons_zero, List.set_cons_succ])
  refine linm_step (i := 4) (d := some 47) (v := (.slice A l.length c)) rfl rfl (by kernel_rfl) (by kernel_rfl) rfl rfl (ordm_value (by kernel_rfl) (fun s w' hm hS => ap_load (Or.inl rfl) HM.out hm hS (.tmp 46) rfl rfl)) ?_
  (try simp only [Act.put, List.setIfInBounds_toArray, List.set_cons_zero, List.set_cons_succ])
  refine linm_step (i := 5) (d := some 48) (v := .int .i64 x.key) rfl rfl (by kernel_rfl) (by kernel_rfl) rfl rfl (ordm_value (by kernel_rfl) ?_) ?_
  · (intro _ w' _ _; go_simp)
  (try simp only [Act.put, List.setIfInBounds_toArray, List.set_cons_zero, List.set_cons_succ])
  refine linm_step (i := 6) (d := some 49) (v := .agg (wordsL x).toArray) rfl rfl (by kernel_rfl) (by kernel_rfl) rfl rfl (ordm_value (by kernel_rfl) (fun s w' hm hS => run_ld_row valT (ApS.other HM.out HR.out HFAR.out hS) (wordsL_length x) (.tmp 5) rfl rfl)) ?_
  (try simp only [Act.put, List.setIfInBounds_toArray, List.set_cons_zero, List.set_cons_succ])
  refine linm_step (i := 7) (d := some 50) (v := .agg (enL x).toArray) rfl rfl (by kernel_rfl) (by kernel_rfl) rfl rfl (ordm_value (by kernel_rfl) ?_) ?_
  · (intro _ w' _ _; unfold enL wordsL; go_simp)
  (try simp only [Act.put, List.setIfInBounds_toArray, List.set_cons_zero, List.set_cons_succ])
  refine linm_turn (i := 8) (d := some 51) [9, 12] (fun u s => u = .slice (some ⟨wx.heap.size, 0, none⟩) 1 1 ∧ s = PK.b) rfl rfl (by kernel_rfl) (by kernel_rfl) rfl (by kernel_rfl) (apMay_no (fun u s' hu => Or.inl hu.2)) (⟨_, _, rfl, rfl⟩) (by kernel_rfl) (fun W hS => ap_build (Or.inl ⟨rfl, rfl⟩) hS (.tmp 50) rfl rfl) ?_
  rintro u s' ⟨rfl, rfl⟩
  (try simp only [Act.put, List.setIfInBounds_toArray, List.set_cons_zero, List.set_cons_succ])
  refine linm_turn (i := 9) (d := some 52) [12] (fun u s => s = PK.c u) rfl rfl (by kernel_rfl) (by kernel_rfl) rfl (by kernel_rfl) (apMay_no (fun u s' hu => Or.inr ⟨u, hu⟩)) (⟨undef, _, rfl⟩) (by kernel_rfl) (fun W hS => ap_append (Or.inl ⟨rfl, rfl⟩) HM.out HN.out HBW.out hS (.tmp 47) (.tmp 51) rfl rfl rfl) ?_
  rintro v s' rfl
  (try simp only [Act.put, List.setIfInBounds_toArray, List.set_cons_zero, List.set_cons_succ])
  refine linm_step (i := 10) (d := some 53) (v := .pointer (some ⟨b, 0, none⟩)) rfl rfl (by kernel_rfl) (by kernel_rfl) rfl rfl (ordm_value (by kernel_rfl) ?_) ?_
  · (intro _ w' _ _; go_simp)
  (try simp only [Act.put, List.setIfInBounds_toArray, List.set_cons_zero, List.set_cons_succ])
  refine linm_step (i := 11) (d := some 54) (v := .pointer (some ⟨b, 2, none⟩)) rfl rfl (by kernel_rfl) (by kernel_rfl) rfl rfl (ordm_value (by kernel_rfl) ?_) ?_
  · (intro _ w' _ _; go_simp)
  (try simp only [Act.put, List.setIfInBounds_toArray, List.set_cons_zero, List.set_cons_succ])
  refine linm_turn (i := 12) (d := none) [] (fun _ s => s = PK.d v) rfl rfl (by kernel_rfl) (by kernel_rfl) rfl (by kernel_rfl) (apMay_last (by kernel_rfl)) (⟨undef, _, rfl⟩) (by kernel_rfl) (fun W hS => ap_store (Or.inl rfl) HM.out hS (.tmp 54) (.tmp 52) rfl rfl rfl) ?_
  rintro u s' rfl
  (try simp only [Act.put, List.setIfInBounds_toArray, List.set_cons_zero, List.set_cons_succ])
  refine linm_done (by kernel_rfl) ?_
  intro W hS
  have HF2 := Lib.hid (S1.out.way.trans (show MpTo 74 (kd false) wx base b (.slice A l.length c) room (l ++ [x]) W v from hS))
  clear hS
  go_wp2
  go_ret
  exact ⟨rfl, v, HF2.out⟩
set_option maxRecDepth 100000 in
set_option maxHeartbeats 2000000 in
theorem put_lru_room (base b : Nat) (sv : Value) (room : Nat) (l : List Z.En) (x : Z.En) (w : World) (h : MpAt 74 (kd true) w base b sv room l) (hp : Z.pos x.key l = none) (hn : l.length ≤ 1000) (hr : l.length < room) (hr1 : 1 ≤ room) (hbase : base ≤ w.heap.size) :
    Calls Try.prog 25 #[.pointer (some ⟨b, 0, none⟩), .int .i64 x.key, .agg #[.int .i64 x.a, .int .i64 x.b, .int .i64 x.c, .int .i64 x.d]] w fun e w' => e = .returned (.int .i64 0) ∧ ∃ sv', MpTo 74 (kd true) w base b sv room (l ++ [x]) w' sv' := by
  have S0 : Hid (InS 74 (kd true) w base b sv room l w.heap.size (wordsL x) (w.alloc (.cells #[.int .i64 x.a, .int .i64 x.b, .int .i64 x.c, .int .i64 x.d] 60)) sv) := Lib.hid ⟨MpTo.self h ((Below.refl _ _).alloc (Nat.le_refl _) _), rowAt_new w (wordsL x) _, by rw [wordsL_length]; omega, fun hf => by (have := (h.foot hf).2; omega), Nat.le_refl _⟩
  have HF := Lib.hid (fun w => find_any (kd true) base b sv room l x.key w)
  have HBS := Lib.hid hbase
  have HP : Hid (Z.posI x.key l = -1) := Lib.hid (by unfold Z.posI; rw [hp])
  have HL := Lib.hid hn
  have hcmp : ¬ ((room : Int) ≤ (l.length : Int)) := by omega
  obtain ⟨A, c, rfl⟩ := owns_slice h.own
  have H1 := Lib.hid hr1
  have HRM := Lib.hid hr
  clear h hp hbase hn hr hr1
  go_enter Try.func25, Try.ntmps25
  go_upto_region 1 with fail
  generalize w.alloc (.cells #[.int .i64 x.a, .int .i64 x.b, .int .i64 x.c, .int .i64 x.d] 60) = W1 at S0 ⊢
  go_upto_region 8 with (go_at_call 32; refine (HF.out _ S0.out.way.at_ HL.out).mono ?_; rw [HP.out]; rintro e w2 ⟨rfl, hb⟩; have S := Lib.hid (S0.out.call hb); clear hb S0)
  have hc2 := S.out.way.at_.row.cell 2 _ rfl
  have hc1 := S.out.way.at_.row.cell 1 _ rfl
  go_quiet (fail)
  go_upto_region 12 with fail
  clear hc1 hc2 hcmp
  have S9 := Lib.hid (S.out.call (W' := w2.drewN nq) (below_drewN w2 nq))
  clear S
  obtain ⟨wx, hwx⟩ : ∃ wx, wx = (w2.drewN nq).drew := ⟨_, rfl⟩
  have S1 := Lib.hid (S9.out.call (Below.refl _ _).drew)
  have HWX := Lib.hid hwx
  rw [← hwx] at S1
  have HM := Lib.hid S1.out.way.at_
  have HR := Lib.hid S1.out.row
  have HFAR := Lib.hid S1.out.far
  have HBW : Hid (base ≤ wx.heap.size) := Lib.hid (Nat.le_trans HBS.out S1.out.way.but.size)
  generalize w.heap.size = B at S1 HR HFAR ⊢
  clear hwx S9
  have HN : Hid (l.length ≤ 1000) := Lib.hid (by first | exact HL.out | (rw [List.length_eraseIdx]; have := HL.out; split <;> omega))
  refine wp_region_linm (ApS 74 (kd true) wx base b (.slice A l.length c) room l x) (apMay 4) (fun i => i == 8 || i == 9 || i == 12) (fun i => [(.pointer (some ⟨b, 0, none⟩)), (.pointer (some ⟨b, 0, none⟩)), (.pointer (some ⟨b, 0, none⟩)), .pointer (some ⟨b, 2, none⟩), (.slice A l.length c), .int .i64 x.key, .agg (wordsL x).toArray, .agg (enL x).toArray, undef, undef, .pointer (some ⟨b, 0, none⟩), .pointer (some ⟨b, 2, none⟩), undef].getD i undef) (PK.a) (by kernel_rfl) (by kernel_rfl) (HWX.out.symm) (fun _ => rfl) ?_
  refine linm_step (i := 0) (d := some 43) (v := (.pointer (some ⟨b, 0, none⟩))) rfl rfl (by kernel_rfl) (by kernel_rfl) rfl rfl (ordm_value (by kernel_rfl) ?_) ?_
  · (intro _ w' _ _; go_simp)
  (try simp only [Act.put, List.setIfInBounds_toArray, List.set_cons_zero, List.set_cons_succ])
  refine linm_step (i := 1) (d := some 44) (v := (.pointer (some ⟨b, 0, none⟩))) rfl rfl (by kernel_rfl) (by kernel_rfl) rfl rfl (ordm_value (by kernel_rfl) ?_) ?_
  · (intro _ w' _ _; go_simp)
  (try simp only [Act.put, List.setIfInBounds_toArray, List.set_cons_zero, List.set_cons_succ])
  refine linm_step (i := 2) (d := some 45) (v := (.pointer (some ⟨b, 0, none⟩))) rfl rfl (by kernel_rfl) (by kernel_rfl) rfl rfl (ordm_value (by kernel_rfl) ?_) ?_
  · (intro _ w' _ _; go_simp)
  (try simp only [Act.put, List.setIfInBounds_toArray, List.set_cons_zero, List.set_cons_succ])
  refine linm_step (i := 3) (d := some 46) (v := .pointer (some ⟨b, 2, none⟩)) rfl rfl (by kernel_rfl) (by kernel_rfl) rfl rfl (ordm_value (by kernel_rfl) ?_) ?_
  · (intro _ w' _ _; go_simp)
  (try simp only [Act.put, List.setIfInBounds_toArray, List.set_cons_zero, List.set_cons_succ])
  refine linm_step (i := 4) (d := some 47) (v := (.slice A l.length c)) rfl rfl (by kernel_rfl) (by kernel_rfl) rfl rfl (ordm_value (by kernel_rfl) (fun s w' hm hS => ap_load (Or.inl rfl) HM.out hm hS (.tmp 46) rfl rfl)) ?_
  (try simp only [Act.put, List.setIfInBounds_toArray, List.set_cons_zero, List.set_cons_succ])
  refine linm_step (i := 5) (d := some 48) (v := .int .i64 x.key) rfl rfl (by kernel_rfl) (by kernel_rfl) rfl rfl (ordm_value (by kernel_rfl) ?_) ?_
  · (intro _ w' _ _; go_simp)
  (try simp only [Act.put, List.setIfInBounds_toArray, List.set_cons_zero, List.set_cons_succ])
  refine linm_step (i := 6) (d := some 49) (v := .agg (wordsL x).toArray) rfl rfl (by kernel_rfl) (by kernel_rfl) rfl rfl (ordm_value (by kernel_rfl) (fun s w' hm hS => run_ld_row valT (ApS.other HM.out HR.out HFAR.out hS) (wordsL_length x) (.tmp 5) rfl rfl)) ?_
  (try simp only [Act.put, List.setIfInBounds_toArray, List.set_cons_zero, List.set_cons_succ])
  refine linm_step (i := 7) (d := some 50) (v := .agg (enL x).toArray) rfl rfl (by kernel_rfl) (by kernel_rfl) rfl rfl (ordm_value (by kernel_rfl) ?_) ?_
  · (intro _ w' _ _; unfold enL wordsL; go_simp)
  (try simp only [Act.put, List.setIfInBounds_toArray, List.set_cons_zero, List.set_cons_succ])
  refine linm_turn (i := 8) (d := some 51) [9, 12] (fun u s => u = .slice (some ⟨wx.heap.size, 0, none⟩) 1 1 ∧ s = PK.b) rfl rfl (by kernel_rfl) (by kernel_rfl) rfl (by kernel_rfl) (apMay_no (fun u s' hu => Or.inl hu.2)) (⟨_, _, rfl, rfl⟩) (by kernel_rfl) (fun W hS => ap_build (Or.inl ⟨rfl, rfl⟩) hS (.tmp 50) rfl rfl) ?_
  rintro u s' ⟨rfl, rfl⟩
  (try simp only [Act.put, List.setIfInBounds_toArray, List.set_cons_zero, List.set_cons_succ])
  refine linm_turn (i := 9) (d := some 52) [12] (fun u s => s = PK.c u) rfl rfl (by kernel_rfl) (by kernel_rfl) rfl (by kernel_rfl) (apMay_no (fun u s' hu => Or.inr ⟨u, hu⟩)) (⟨undef, _, rfl⟩) (by kernel_rfl) (fun W hS => ap_append (Or.inl ⟨rfl, rfl⟩) HM.out HN.out HBW.out hS (.tmp 47) (.tmp 51) rfl rfl rfl) ?_
  rintro v s' rfl
  (try simp only [Act.put, List.setIfInBounds_toArray, List.set_cons_zero, List.set_cons_succ])
  refine linm_step (i := 10) (d := some 53) (v := .pointer (some ⟨b, 0, none⟩)) rfl rfl (by kernel_rfl) (by kernel_rfl) rfl rfl (ordm_value (by kernel_rfl) ?_) ?_
  · (intro _ w' _ _; go_simp)
  (try simp only [Act.put, List.setIfInBounds_toArray, List.set_cons_zero, List.set_cons_succ])
  refine linm_step (i := 11) (d := some 54) (v := .pointer (some ⟨b, 2, none⟩)) rfl rfl (by kernel_rfl) (by kernel_rfl) rfl rfl (ordm_value (by kernel_rfl) ?_) ?_
  · (intro _ w' _ _; go_simp)
  (try simp only [Act.put, List.setIfInBounds_toArray, List.set_cons_zero, List.set_cons_succ])
  refine linm_turn (i := 12) (d := none) [] (fun _ s => s = PK.d v) rfl rfl (by kernel_rfl) (by kernel_rfl) rfl (by kernel_rfl) (apMay_last (by kernel_rfl)) (⟨undef, _, rfl⟩) (by kernel_rfl) (fun W hS => ap_store (Or.inl rfl) HM.out hS (.tmp 54) (.tmp 52) rfl rfl rfl) ?_
  rintro u s' rfl
  (try simp only [Act.put, List.setIfInBounds_toArray, List.set_cons_zero, List.set_cons_succ])
  refine linm_done (by kernel_rfl) ?_
  intro W hS
  have HF2 := Lib.hid (S1.out.way.trans (show MpTo 74 (kd true) wx base b (.slice A l.length c) room (l ++ [x]) W v from hS))
  clear hS
  go_wp2
  go_ret
  exact ⟨rfl, v, HF2.out⟩
end Go.Proofs.Ythngbakbiocadaa

/-
  Put: a key's value is set.
-/
namespace Go.Proofs.Ythngbakbiocadaa
set_option maxRecDepth 100000
open Go.RowKit Go.Maps

set_option maxRecDepth 100000 in
set_option maxHeartbeats 2000000 in
theorem put_hash_full (base b : Nat) (sv : Value) (room : Nat) (l : List Z.En) (x : Z.En) (w : World) (h : MpAt 74 (kd false) w base b sv room l) (hp : Z.pos x.key l = none) (hn : l.length ≤ 1000) (hr : l.length = room) (hr1 : 1 ≤ room) (hbase : base ≤ w.heap.size) :
    Calls Try.prog 25 #[.pointer (some ⟨b, 0, none⟩), .int .i64 x.key, .agg #[.int .i64 x.a, .int .i64 x.b, .int .i64 x.c, .int .i64 x.d]] w fun e w' => e = .returned (.int .i64 28) ∧ ∃ sv', MpTo 74 (kd false) w base b sv room (l) w' sv' := by
  have S0 : Hid (InS 74 (kd false) w base b sv room l w.heap.size (wordsL x) (w.alloc (.cells #[.int .i64 x.a, .int .i64 x.b, .int .i64 x.c, .int .i64 x.d] 60)) sv) := Lib.hid ⟨MpTo.self h ((Below.refl _ _).alloc (Nat.le_refl _) _), rowAt_new w (wordsL x) _, by rw [wordsL_length]; omega, fun hf => by (have := (h.foot hf).2; omega), Nat.le_refl _⟩
  have HF := Lib.hid (fun w => find_any (kd false) base b sv room l x.key w)
  have HBS := Lib.hid hbase
  have HP : Hid (Z.posI x.key l = -1) := Lib.hid (by unfold Z.posI; rw [hp])
  have HL := Lib.hid hn
  have hcmp : (room : Int) ≤ (l.length : Int) := by omega
  obtain ⟨A, c, rfl⟩ := owns_slice h.own
  have H1 := Lib.hid hr1
  have HRM := Lib.hid hr
  clear h hp hbase hn hr hr1
  go_enter Try.func25, Try.ntmps25
  go_upto_region 1 with fail
  generalize w.alloc (.cells #[.int .i64 x.a, .int .i64 x.b, .int .i64 x.c, .int .i64 x.d] 60) = W1 at S0 ⊢
  go_upto_region 8 with (go_at_call 32; refine (HF.out _ S0.out.way.at_ HL.out).mono ?_; rw [HP.out]; rintro e w2 ⟨rfl, hb⟩; have S := Lib.hid (S0.out.call hb); clear hb S0)
  have hc2 := S.out.way.at_.row.cell 2 _ rfl
  have hc1 := S.out.way.at_.row.cell 1 _ rfl
  have hc0 : w2.cell? ⟨b, 0, none⟩ = some (.int .i64 1) := S.out.way.at_.row.cell 0 _ rfl
  go_quiet (fail)
  go_wp2
  refine bodyPost_ret (results_tmp rfl _ _ _) rfl ⟨rfl, _, (S.out.call (W' := w2.drewN nq) (below_drewN w2 nq)).way⟩
set_option maxRecDepth 100000 in
set_option maxHeartbeats 2000000 in
theorem put_lru_full (base b : Nat) (sv : Value) (room : Nat) (l : List Z.En) (x : Z.En) (w : World) (h : MpAt 74 (kd true) w base b sv room l) (hp : Z.pos x.key l = none) (hn : l.length ≤ 1000) (hr : l.length = room) (hr1 : 1 ≤ room) (hbase : base ≤ w.heap.size) :
    Calls Try.prog 25 #[.pointer (some ⟨b, 0, none⟩), .int .i64 x.key, .agg #[.int .i64 x.a, .int .i64 x.b, .int .i64 x.c, .int .i64 x.d]] w fun e w' => e = .returned (.int .i64 0) ∧ ∃ sv', MpTo 74 (kd true) w base b sv room (l.eraseIdx 0 ++ [x]) w' sv' := by
  have S0 : Hid (InS 74 (kd true) w base b sv room l w.heap.size (wordsL x) (w.alloc (.cells #[.int .i64 x.a, .int .i64 x.b, .int .i64 x.c, .int .i64 x.d] 60)) sv) := Lib.hid ⟨MpTo.self h ((Below.refl _ _).alloc (Nat.le_refl _) _), rowAt_new w (wordsL x) _, by rw [wordsL_length]; omega, fun hf => by (have := (h.foot hf).2; omega), Nat.le_refl _⟩
  have HF := Lib.hid (fun w => find_any (kd true) base b sv room l x.key w)
  have HBS := Lib.hid hbase
  have HP : Hid (Z.posI x.key l = -1) := Lib.hid (by unfold Z.posI; rw [hp])
  have HL := Lib.hid hn
  have hcmp : (room : Int) ≤ (l.length : Int) := by omega
  obtain ⟨A, c, rfl⟩ := owns_slice h.own
  have H1 := Lib.hid hr1
  have HRM := Lib.hid hr
  clear h hp hbase hn hr hr1
  go_enter Try.func25, Try.ntmps25
  go_upto_region 1 with fail
  generalize w.alloc (.cells #[.int .i64 x.a, .int .i64 x.b, .int .i64 x.c, .int .i64 x.d] 60) = W1 at S0 ⊢
  go_upto_region 8 with (go_at_call 32; refine (HF.out _ S0.out.way.at_ HL.out).mono ?_; rw [HP.out]; rintro e w2 ⟨rfl, hb⟩; have S := Lib.hid (S0.out.call hb); clear hb S0)
  have hc2 := S.out.way.at_.row.cell 2 _ rfl
  have hc1 := S.out.way.at_.row.cell 1 _ rfl
  have hc0 : w2.cell? ⟨b, 0, none⟩ = some (.int .i64 2) := S.out.way.at_.row.cell 0 _ rfl
  go_quiet (fail)
  have S3 := Lib.hid (S.out.call (W' := w2.drewN nq) (below_drewN w2 nq))
  have H0 : Hid (0 < l.length) := Lib.hid (by have := HRM.out; have := H1.out; omega)
  go_upto_region 12 with (go_at_call 35; refine (rem_any (kd true) base b _ room l 0 _ S3.out.way.at_ H0.out HL.out).mono ?_; rintro e w5 ⟨rfl, sv2, hto⟩; have S9 := Lib.hid (S3.out.turn hto); clear hto)
  clear hc0 hc1 hc2 hcmp S S3
  obtain ⟨wx, hwx⟩ : ∃ wx, wx = w5.drew := ⟨_, rfl⟩
  have S1 := Lib.hid (S9.out.call (Below.refl _ _).drew)
  have HWX := Lib.hid hwx
  rw [← hwx] at S1
  have HM := Lib.hid S1.out.way.at_
  have HR := Lib.hid S1.out.row
  have HFAR := Lib.hid S1.out.far
  have HBW : Hid (base ≤ wx.heap.size) := Lib.hid (Nat.le_trans HBS.out S1.out.way.but.size)
  generalize w.heap.size = B at S1 HR HFAR ⊢
  clear hwx S9
  have HN : Hid ((l.eraseIdx 0).length ≤ 1000) := Lib.hid (by first | exact HL.out | (rw [List.length_eraseIdx]; have := HL.out; split <;> omega))
  refine wp_region_linm (ApS 74 (kd true) wx base b sv2 room (l.eraseIdx 0) x) (apMay 4) (fun i => i == 8 || i == 9 || i == 12) (fun i => [(.pointer (some ⟨b, 0, none⟩)), (.pointer (some ⟨b, 0, none⟩)), (.pointer (some ⟨b, 0, none⟩)), .pointer (some ⟨b, 2, none⟩), sv2, .int .i64 x.key, .agg (wordsL x).toArray, .agg (enL x).toArray, undef, undef, .pointer (some ⟨b, 0, none⟩), .pointer (some ⟨b, 2, none⟩), undef].getD i undef) (PK.a) (by kernel_rfl) (by kernel_rfl) (HWX.out.symm) (fun _ => rfl) ?_
  refine linm_step (i := 0) (d := some 43) (v := (.pointer (some ⟨b, 0, none⟩))) rfl rfl (by kernel_rfl) (by kernel_rfl) rfl rfl (ordm_value (by kernel_rfl) ?_) ?_
  · (intro _ w' _ _; go_simp)
  (try simp only [Act.put, List.setIfInBounds_toArray, List.set_cons_zero, List.set_cons_succ])
  refine linm_step (i := 1) (d := some 44) (v := (.pointer (some ⟨b, 0, none⟩))) rfl rfl (by kernel_rfl) (by kernel_rfl) rfl rfl (ordm_value (by kernel_rfl) ?_) ?_
  · (intro _ w' _ _; go_simp)
  (try simp only [Act.put, List.setIfInBounds_toArray, List.set_cons_zero, List.set_cons_succ])
  refine linm_step (i := 2) (d := some 45) (v := (.pointer (some ⟨b, 0, none⟩))) rfl rfl (by kernel_rfl) (by kernel_rfl) rfl rfl (ordm_value (by kernel_rfl) ?_) ?_
  · (intro _ w' _ _; go_simp)
  (try simp only [Act.put, List.setIfInBounds_toArray, List.set_cons_zero, List.set_cons_succ])
  refine linm_step (i := 3) (d := some 46) (v := .pointer (some ⟨b, 2, none⟩)) rfl rfl (by kernel_rfl) (by kernel_rfl) rfl rfl (ordm_value (by kernel_rfl) ?_) ?_
  · (intro _ w' _ _; go_simp)
  (try simp only [Act.put, List.setIfInBounds_toArray, List.set_cons_zero, List.set_cons_succ])
  refine linm_step (i := 4) (d := some 47) (v := sv2) rfl rfl (by kernel_rfl) (by kernel_rfl) rfl rfl (ordm_value (by kernel_rfl) (fun s w' hm hS => ap_load (Or.inl rfl) HM.out hm hS (.tmp 46) rfl rfl)) ?_
  (try simp only [Act.put, List.setIfInBounds_toArray, List.set_cons_zero, List.set_cons_succ])
  refine linm_step (i := 5) (d := some 48) (v := .int .i64 x.key) rfl rfl (by kernel_rfl) (by kernel_rfl) rfl rfl (ordm_value (by kernel_rfl) ?_) ?_
  · (intro _ w' _ _; go_simp)
  (try simp only [Act.put, List.setIfInBounds_toArray, List.set_cons_zero, List.set_cons_succ])
  refine linm_step (i := 6) (d := some 49) (v := .agg (wordsL x).toArray) rfl rfl (by kernel_rfl) (by kernel_rfl) rfl rfl (ordm_value (by kernel_rfl) (fun s w' hm hS => run_ld_row valT (ApS.other HM.out HR.out HFAR.out hS) (wordsL_length x) (.tmp 5) rfl rfl)) ?_
  (try simp only [Act.put, List.setIfInBounds_toArray, List.set_cons_zero, List.set_cons_succ])
  refine linm_step (i := 7) (d := some 50) (v := .agg (enL x).toArray) rfl rfl (by kernel_rfl) (by kernel_rfl) rfl rfl (ordm_value (by kernel_rfl) ?_) ?_
  · (intro _ w' _ _; unfold enL wordsL; go_simp)
  (try simp only [Act.put, List.setIfInBounds_toArray, List.set_cons_zero, List.set_cons_succ])
  refine linm_turn (i := 8) (d := some 51) [9, 12] (fun u s => u = .slice (some ⟨wx.heap.size, 0, none⟩) 1 1 ∧ s = PK.b) rfl rfl (by kernel_rfl) (by kernel_rfl) rfl (by kernel_rfl) (apMay_no (fun u s' hu => Or.inl hu.2)) (⟨_, _, rfl, rfl⟩) (by kernel_rfl) (fun W hS => ap_build (Or.inl ⟨rfl, rfl⟩) hS (.tmp 50) rfl rfl) ?_
  rintro u s' ⟨rfl, rfl⟩
  (try simp only [Act.put, List.setIfInBounds_toArray, List.set_cons_zero, List.set_cons_succ])
  refine linm_turn (i := 9) (d := some 52) [12] (fun u s => s = PK.c u) rfl rfl (by kernel_rfl) (by kernel_rfl) rfl (by kernel_rfl) (apMay_no (fun u s' hu => Or.inr ⟨u, hu⟩)) (⟨undef, _, rfl⟩) (by kernel_rfl) (fun W hS => ap_append (Or.inl ⟨rfl, rfl⟩) HM.out HN.out HBW.out hS (.tmp 47) (.tmp 51) rfl rfl rfl) ?_
  rintro v s' rfl
  (try simp only [Act.put, List.setIfInBounds_toArray, List.set_cons_zero, List.set_cons_succ])
  refine linm_step (i := 10) (d := some 53) (v := .pointer (some ⟨b, 0, none⟩)) rfl rfl (by kernel_rfl) (by kernel_rfl) rfl rfl (ordm_value (by kernel_rfl) ?_) ?_
  · (intro _ w' _ _; go_simp)
  (try simp only [Act.put, List.setIfInBounds_toArray, List.set_cons_zero, List.set_cons_succ])
  refine linm_step (i := 11) (d := some 54) (v := .pointer (some ⟨b, 2, none⟩)) rfl rfl (by kernel_rfl) (by kernel_rfl) rfl rfl (ordm_value (by kernel_rfl) ?_) ?_
  · (intro _ w' _ _; go_simp)
  (try simp only [Act.put, List.setIfInBounds_toArray, List.set_cons_zero, List.set_cons_succ])
  refine linm_turn (i := 12) (d := none) [] (fun _ s => s = PK.d v) rfl rfl (by kernel_rfl) (by kernel_rfl) rfl (by kernel_rfl) (apMay_last (by kernel_rfl)) (⟨undef, _, rfl⟩) (by kernel_rfl) (fun W hS => ap_store (Or.inl rfl) HM.out hS (.tmp 54) (.tmp 52) rfl rfl rfl) ?_
  rintro u s' rfl
  (try simp only [Act.put, List.setIfInBounds_toArray, List.set_cons_zero, List.set_cons_succ])
  refine linm_done (by kernel_rfl) ?_
  intro W hS
  have HF2 := Lib.hid (S1.out.way.trans (show MpTo 74 (kd true) wx base b sv2 room ((l.eraseIdx 0) ++ [x]) W v from hS))
  clear hS
  go_wp2
  go_ret
  exact ⟨rfl, v, HF2.out⟩
end Go.Proofs.Ythngbakbiocadaa

/-
  Put: a key's value is set.
-/
namespace Go.Proofs.Ythngbakbiocadaa
set_option maxRecDepth 100000
open Go.RowKit Go.Maps

/-- Put, in one -/
theorem put_any (lru : Bool) (base b : Nat) (sv : Value) (room : Nat) (l : List Z.En) (x : Z.En) (w : World) (h : MpAt 74 (kd lru) w base b sv room l) (hn : l.length ≤ room) (hr1 : 1 ≤ room) (hr : room ≤ 1000) (hbase : base ≤ w.heap.size) :
    Calls Try.prog 25 #[.pointer (some ⟨b, 0, none⟩), .int .i64 x.key, .agg #[.int .i64 x.a, .int .i64 x.b, .int .i64 x.c, .int .i64 x.d]] w fun e w' => e = .returned (.int .i64 (Z.putC lru room l x)) ∧ ∃ sv', MpTo 74 (kd lru) w base b sv room (Z.putI lru room l x) w' sv' := by
  unfold Z.putC Z.putI
  cases hp : Z.pos x.key l with
  | some i =>
    cases lru with
    | false => exact put_there_hash base b sv room l x i w h hp (by omega) hbase
    | true => exact put_there_lru base b sv room l x i w h hp (by omega) hbase
  | none =>
    by_cases hf : l.length = room
    · simp only [hf, if_true]
      cases lru with
      | false => exact put_hash_full base b sv room l x w h hp (by omega) hf hr1 hbase
      | true => exact put_lru_full base b sv room l x w h hp (by omega) hf hr1 hbase
    · simp only [hf, if_false]
      cases lru with
      | false => exact put_hash_room base b sv room l x w h hp (by omega) (by omega) hr1 hbase
      | true => exact put_lru_room base b sv room l x w h hp (by omega) (by omega) hr1 hbase
end Go.Proofs.Ythngbakbiocadaa

/-
  New, Get, Use, Len, Clear; and all of them of a map that isn't there.
-/
namespace Go.Proofs.Ythngbakbiocadaa
set_option maxRecDepth 100000
open Go.RowKit Go.Maps

theorem new_at (w : World) (hd : Value) (room base : Nat) (t : TypeId) (hb : base ≤ w.heap.size) : MpAt 74 hd (w.alloc (.cells #[hd, .int .i64 (room : Int), .slice none 0 0] t)) base w.heap.size (.slice none 0 0) room [] where
  row := rowAt_new w [hd, .int .i64 (room : Int), .slice none 0 0] t
  own := ⟨rfl, Or.inl ⟨rfl, rfl⟩⟩
  ne := by simp [Value.ownBlock]
  ge := hb
/-- a map that is made -/
def Made (lru : Bool) (room : Nat) (w : World) (e : Ending) (w' : World) : Prop := e = .returned (.tuple #[.pointer (some ⟨w.heap.size, 0, none⟩), .int .i64 0]) ∧ (∀ base, base ≤ w.heap.size → MpAt 74 (kd lru) w' base w.heap.size (.slice none 0 0) room []) ∧ Below w.heap.size w w'
theorem made (lru : Bool) (room : Nat) (w : World) (t : TypeId) : Made lru room w (.returned (.tuple #[.pointer (some ⟨w.heap.size, 0, none⟩), .int .i64 0])) (w.alloc (.cells #[kd lru, .int .i64 (room : Int), .slice none 0 0] t)) :=
  ⟨rfl, fun base hb => new_at w (kd lru) room base t hb, (Below.refl _ _).alloc (Nat.le_refl _) _⟩
theorem new_lru (room : Nat) (w : World) (h1 : 1 ≤ room) (h2 : room ≤ 8) : Calls Try.prog 33 #[.int .i64 2, .int .i64 (room : Int)] w (Made true room w) := by
  have a1 : ¬ ((room : Int) < 1) := by omega
  have a2 : ¬ ((8 : Int) < (room : Int)) := by omega
  have HM := Lib.hid (made true room w 86)
  clear h1 h2
  go_enter Try.func33, Try.ntmps33
  go_wp2
  go_ret2
  exact HM.out
theorem new_hash (room : Nat) (w : World) (h1 : 1 ≤ room) (h2 : room ≤ 8) : Calls Try.prog 33 #[.int .i64 1, .int .i64 (room : Int)] w (Made false room w) := by
  have a1 : ¬ ((room : Int) < 1) := by omega
  have a2 : ¬ ((8 : Int) < (room : Int)) := by omega
  have HM := Lib.hid (made false room w 86)
  clear h1 h2
  go_enter Try.func33, Try.ntmps33
  go_wp2
  go_ret2
  exact HM.out
theorem new_no (kind room : Int) (w : World) (h : ¬ ((kind = 1 ∨ kind = 2) ∧ 1 ≤ room ∧ room ≤ 8)) : Calls Try.prog 33 #[.int .i64 kind, .int .i64 room] w fun e w' => e = .returned (.tuple #[.pointer none, .int .i64 22]) ∧ Below w.heap.size w w' := by
  by_cases h1 : kind = 1
  · subst h1
    by_cases hr : room < 1
    · clear h
      go_enter Try.func33, Try.ntmps33
      go_wp2
      go_ret2
      exact ⟨rfl, Below.refl _ _⟩
    · have hr2 : 8 < room := by omega
      clear h
      go_enter Try.func33, Try.ntmps33
      go_wp2
      go_ret2
      exact ⟨rfl, Below.refl _ _⟩
  · by_cases h2 : kind = 2
    · subst h2
      by_cases hr : room < 1
      · clear h
        go_enter Try.func33, Try.ntmps33
        go_wp2
        go_ret2
        exact ⟨rfl, Below.refl _ _⟩
      · have hr2 : 8 < room := by omega
        clear h
        go_enter Try.func33, Try.ntmps33
        go_wp2
        go_ret2
        exact ⟨rfl, Below.refl _ _⟩
    · have g1 : (kind != 1) = true := by simpa using h1
      have g2 : (kind != 2) = true := by simpa using h2
      clear h
      go_enter Try.func33, Try.ntmps33
      go_wp2
      go_ret2
      exact ⟨rfl, Below.refl _ _⟩
/-! ### nobody -/
def zeroW : Value := .agg #[.int .i64 0, .int .i64 0, .int .i64 0, .int .i64 0]
theorem zero_row (w : World) (t : TypeId) : RowAt (w.alloc (.cells #[.int .i64 0, .int .i64 0, .int .i64 0, .int .i64 0] t)) w.heap.size [.int .i64 0, .int .i64 0, .int .i64 0, .int .i64 0] := rowAt_new w [.int .i64 0, .int .i64 0, .int .i64 0, .int .i64 0] t
theorem zero_one : ∀ v ∈ [Value.int .i64 0, .int .i64 0, .int .i64 0, .int .i64 0], v.oneCell' = true := by
  intro v hv
  simp only [List.mem_cons, List.not_mem_nil, or_false] at hv
  rcases hv with rfl | rfl | rfl | rfl <;> rfl
theorem put_nil (key a b c d : Int) (w : World) : Calls Try.prog 25 #[.pointer none, .int .i64 key, .agg #[.int .i64 a, .int .i64 b, .int .i64 c, .int .i64 d]] w fun e w' => e = .returned (.int .i64 22) ∧ Below w.heap.size w w' := by
  go_enter Try.func25, Try.ntmps25
  go_wp2
  refine bodyPost_ret (results_tmp rfl _ _ _) rfl ⟨rfl, (Below.refl _ _).alloc (Nat.le_refl _) _⟩
theorem word_nil (key i n : Int) (w : World) : Calls Try.prog 66 #[.pointer none, .int .i64 key, .int .i64 i, .int .i64 n] w fun e w' => e = .returned (.int .i64 22) ∧ Below w.heap.size w w' := by
  go_enter Try.func66, Try.ntmps66
  go_wp2
  refine bodyPost_ret (results_tmp rfl _ _ _) rfl ⟨rfl, Below.refl _ _⟩
theorem drop_nil (key : Int) (w : World) : Calls Try.prog 75 #[.pointer none, .int .i64 key] w fun e w' => e = .returned (.int .i64 2) ∧ Below w.heap.size w w' := by
  have HF := Lib.hid (fun w => find_nil key w)
  go_enter Try.func75, Try.ntmps75
  go_wp2_with (go_at_call 32; refine (HF.out _).mono ?_; rintro e w2 ⟨rfl, hb⟩; have HB := Lib.hid hb; clear hb)
  refine bodyPost_ret (results_tmp rfl _ _ _) rfl ⟨rfl, HB.out⟩
theorem all_nil (w : World) : Calls Try.prog 18 #[.pointer none] w fun e w' => e = .returned (.slice none 0 0) ∧ Below w.heap.size w w' := by
  go_enter Try.func18, Try.ntmps18
  go_wp2
  refine bodyPost_ret (results_tmp rfl _ _ _) rfl ⟨rfl, Below.refl _ _⟩
theorem len_nil (w : World) : Calls Try.prog 20 #[.pointer none] w fun e w' => e = .returned (.int .i64 0) ∧ Below w.heap.size w w' := by
  go_enter Try.func20, Try.ntmps20
  go_wp2
  refine bodyPost_ret (results_tmp rfl _ _ _) rfl ⟨rfl, Below.refl _ _⟩
set_option maxHeartbeats 1000000 in
theorem get_nil (key : Int) (w : World) : Calls Try.prog 21 #[.pointer none, .int .i64 key] w fun e w' => e = .returned (.tuple #[zeroW, .bool false]) ∧ Below w.heap.size w w' := by
  have HF := Lib.hid (fun w => find_nil key w)
  have HB0 : Hid (Below w.heap.size w (w.alloc (.cells #[.int .i64 0, .int .i64 0, .int .i64 0, .int .i64 0] 60))) := Lib.hid ((Below.refl _ _).alloc (Nat.le_refl _) _)
  have R0 := Lib.hid (zero_row w 60)
  go_enter Try.func21, Try.ntmps21
  go_upto_region 1 with fail
  generalize w.alloc (.cells #[.int .i64 0, .int .i64 0, .int .i64 0, .int .i64 0] 60) = W1 at HB0 R0 ⊢
  go_wp2_with (first
    | (go_at_call 32; refine (HF.out _).mono ?_; rintro e w2 ⟨rfl, hb⟩; have R := Lib.hid (R0.out.step hb); have HB := Lib.hid (HB0.out.trans (hb.mono HB0.out.size)); clear hb)
    | ((with_reducible refine wpList_store_row valT R.out rfl (vs := [.int .i64 0, .int .i64 0, .int .i64 0, .int .i64 0]) rfl zero_one rfl (.tmp 4) (.tmp 12) rfl ?_ ?_ ?_); (exact rfl); (exact rfl)))
  refine bodyPost_ret (results_row2 valT _ 4 5 rfl _ (R.out.put _ rfl) rfl rfl rfl) rfl ⟨rfl, below_setCells _ (Nat.le_refl _) _ _ _ HB.out⟩
set_option maxHeartbeats 1000000 in
theorem use_nil (key : Int) (w : World) : Calls Try.prog 74 #[.pointer none, .int .i64 key] w fun e w' => e = .returned (.tuple #[zeroW, .bool false]) ∧ Below w.heap.size w w' := by
  have HF := Lib.hid (fun w => find_nil key w)
  have HB0 : Hid (Below w.heap.size w (w.alloc (.cells #[.int .i64 0, .int .i64 0, .int .i64 0, .int .i64 0] 60))) := Lib.hid ((Below.refl _ _).alloc (Nat.le_refl _) _)
  have R0 := Lib.hid (zero_row w 60)
  go_enter Try.func74, Try.ntmps74
  go_upto_region 1 with fail
  generalize w.alloc (.cells #[.int .i64 0, .int .i64 0, .int .i64 0, .int .i64 0] 60) = W1 at HB0 R0 ⊢
  go_wp2_with (first
    | (go_at_call 32; refine (HF.out _).mono ?_; rintro e w2 ⟨rfl, hb⟩; have R := Lib.hid (R0.out.step hb); have HB := Lib.hid (HB0.out.trans (hb.mono HB0.out.size)); clear hb)
    | ((with_reducible refine wpList_store_row valT R.out rfl (vs := [.int .i64 0, .int .i64 0, .int .i64 0, .int .i64 0]) rfl zero_one rfl (.tmp 4) (.tmp 13) rfl ?_ ?_ ?_); (exact rfl); (exact rfl)))
  refine bodyPost_ret (results_row2 valT _ 4 5 rfl _ (R.out.put _ rfl) rfl rfl rfl) rfl ⟨rfl, below_setCells _ (Nat.le_refl _) _ _ _ HB.out⟩
end Go.Proofs.Ythngbakbiocadaa

/-
  Get, Use, Len, Clear, All of a map that is there.
-/
namespace Go.Proofs.Ythngbakbiocadaa
set_option maxRecDepth 100000
open Go.RowKit Go.Maps

theorem words_range {w : World} {g o : Nat} {x : Z.En} (h : w.rangeAt g o (enL x)) : w.rangeAt g (o + 1) (wordsL x) := fun j v hv => by
  have := h (j + 1) v hv
  rwa [show o + (j + 1) = o + 1 + j by omega] at this
theorem len_any (hd : Value) (base b : Nat) (sv : Value) (room : Nat) (l : List Z.En) (w : World) (h : MpAt 74 hd w base b sv room l) :
    Calls Try.prog 20 #[.pointer (some ⟨b, 0, none⟩)] w fun e w' => e = .returned (.int .i64 (l.length : Int)) ∧ Below w.heap.size w w' := by
  obtain ⟨A, c, rfl⟩ := owns_slice h.own
  have hc2 := h.row.cell 2 _ rfl
  clear h
  go_enter Try.func20, Try.ntmps20
  go_wp2
  go_ret
  exact ⟨rfl, Below.refl _ _⟩
set_option maxRecDepth 100000 in
set_option maxHeartbeats 2000000 in
theorem get_no (hd : Value) (base b : Nat) (sv : Value) (room : Nat) (l : List Z.En) (key : Int) (w : World) (h : MpAt 74 hd w base b sv room l) (hn : l.length ≤ 1000) (hp : Z.pos key l = none) :
    Calls Try.prog 21 #[.pointer (some ⟨b, 0, none⟩), .int .i64 key] w fun e w' => e = .returned (.tuple #[zeroW, .bool false]) ∧ Below w.heap.size w w' := by
  have HF := Lib.hid (fun w => find_any hd base b sv room l key w)
  have HP : Hid (Z.posI key l = -1) := Lib.hid (by unfold Z.posI; rw [hp])
  have HL := Lib.hid hn
  have HB0 : Hid (Below w.heap.size w (w.alloc (.cells #[.int .i64 0, .int .i64 0, .int .i64 0, .int .i64 0] 60))) := Lib.hid ((Below.refl _ _).alloc (Nat.le_refl _) _)
  have HM := Lib.hid (h.step HB0.out)
  have R0 := Lib.hid (zero_row w 60)
  clear h hp hn
  go_enter Try.func21, Try.ntmps21
  go_upto_region 1 with fail
  generalize w.alloc (.cells #[.int .i64 0, .int .i64 0, .int .i64 0, .int .i64 0] 60) = W1 at HB0 R0 HM ⊢
  go_wp2_with (first
    | (go_at_call 32; refine (HF.out _ HM.out HL.out).mono ?_; rw [HP.out]; rintro e w2 ⟨rfl, hb⟩; have R := Lib.hid (R0.out.step hb); have HB := Lib.hid (HB0.out.trans (hb.mono HB0.out.size)); clear hb)
    | ((with_reducible refine wpList_store_row valT R.out rfl (vs := [.int .i64 0, .int .i64 0, .int .i64 0, .int .i64 0]) rfl zero_one rfl (.tmp 4) (.tmp 12) rfl ?_ ?_ ?_); (exact rfl); (exact rfl)))
  refine bodyPost_ret (results_row2 valT _ 4 5 rfl _ (R.out.put _ rfl) rfl rfl rfl) rfl ⟨rfl, below_setCells _ (Nat.le_refl _) _ _ _ HB.out⟩
set_option maxRecDepth 100000 in
set_option maxHeartbeats 2000000 in
theorem get_yes (hd : Value) (base b : Nat) (sv : Value) (room : Nat) (l : List Z.En) (key : Int) (i : Nat) (x : Z.En) (w : World) (h : MpAt 74 hd w base b sv room l) (hn : l.length ≤ 1000) (hp : Z.pos key l = some i) (hx : l[i]? = some x) :
    Calls Try.prog 21 #[.pointer (some ⟨b, 0, none⟩), .int .i64 key] w fun e w' => e = .returned (.tuple #[.agg (wordsL x).toArray, .bool true]) ∧ Below w.heap.size w w' := by
  have HF := Lib.hid (fun w => find_any hd base b sv room l key w)
  have HP : Hid (Z.posI key l = (i : Int)) := Lib.hid (by unfold Z.posI; rw [hp])
  have hi : i < l.length := (List.getElem?_eq_some_iff.1 hx).1
  have HX := Lib.hid hx
  have HL := Lib.hid hn
  have hi1 : (i : Int) < (l.length : Int) := by omega
  have hi0 : (0 : Int) ≤ (i : Int) := by omega
  have HB0 : Hid (Below w.heap.size w (w.alloc (.cells #[.int .i64 0, .int .i64 0, .int .i64 0, .int .i64 0] 60))) := Lib.hid ((Below.refl _ _).alloc (Nat.le_refl _) _)
  have HM := Lib.hid (h.step HB0.out)
  have R0 := Lib.hid (zero_row w 60)
  obtain ⟨g, cap, hsv, _, _, _, hgl, _⟩ := own_range h.own hx
  subst hsv
  clear h hp hn hx hi
  go_enter Try.func21, Try.ntmps21
  go_upto_region 1 with fail
  generalize w.alloc (.cells #[.int .i64 0, .int .i64 0, .int .i64 0, .int .i64 0] 60) = W1 at HB0 R0 HM ⊢
  go_wp2_with (first
    | (go_at_call 32; refine (HF.out _ HM.out HL.out).mono ?_; rw [HP.out]; rintro e w2 ⟨rfl, hb⟩; have R := Lib.hid (R0.out.step hb); have HB := Lib.hid (HB0.out.trans (hb.mono HB0.out.size)); have hm2 := HM.out.step hb; have hc2 := hm2.row.cell 2 _ rfl; obtain ⟨g', c', he, _, _, _, _, hrg⟩ := own_range hm2.own HX.out; injection he with he _ _; injection he with he; injection he with he; subst he; have HC := Lib.hid (words_range hrg); clear hb hm2 hrg)
    | ((with_reducible refine wpList_load_at valT HC.out (wordsL_length _) rfl (.tmp 19) rfl ?_ ?_); (exact rfl))
    | ((with_reducible refine wpList_store_row valT R.out rfl (vs := wordsL x) (wordsL_length _) (wordsL_one _) rfl (.tmp 4) (.tmp 20) rfl ?_ ?_ ?_); (exact rfl); (exact rfl)))
  refine bodyPost_ret (results_row2 valT _ 4 5 rfl _ (R.out.put _ rfl) rfl rfl rfl) rfl ⟨rfl, below_setCells _ (Nat.le_refl _) _ _ _ HB.out⟩
end Go.Proofs.Ythngbakbiocadaa

/-
  Use of an Lru's entry; All.
-/
namespace Go.Proofs.Ythngbakbiocadaa
set_option maxRecDepth 100000
open Go.RowKit Go.Maps

theorem InS.res {et : TypeId} {hd : Value} {w0 : World} {base b : Nat} {sv0 : Value} {room : Nat} {l : List Z.En} {B : Nat} {vs us : List Value} {W : World} {sv : Value} (k : InS et hd w0 base b sv0 room l B vs W sv) : MpTo et hd w0 base b sv0 room l (W.setCells B 0 us) sv := by
  have hb := But.setCells B us 0 W
  refine ⟨k.way.at_.keep hb (fun x hx hf => k.far (by rw [← hx]; exact hf)), k.way.but.trans hb (fun x hx => Or.inr (by rw [hx]; exact k.old)), k.way.new⟩
set_option maxRecDepth 100000 in
set_option maxHeartbeats 2000000 in
theorem use_lru (base b : Nat) (sv : Value) (room : Nat) (l : List Z.En) (key : Int) (i : Nat) (x : Z.En) (w : World) (h : MpAt 74 (kd true) w base b sv room l) (hn : l.length ≤ 1000) (hp : Z.pos key l = some i) (hx : l[i]? = some x) (hbase : base ≤ w.heap.size) :
    Calls Try.prog 74 #[.pointer (some ⟨b, 0, none⟩), .int .i64 key] w fun e w' => e = .returned (.tuple #[.agg (wordsL x).toArray, .bool true]) ∧ ∃ sv', MpTo 74 (kd true) w base b sv room (l.eraseIdx i ++ [x]) w' sv' := by
  have HF := Lib.hid (fun w => find_any (kd true) base b sv room l key w)
  have HP : Hid (Z.posI key l = (i : Int)) := Lib.hid (by unfold Z.posI; rw [hp])
  have hi : i < l.length := (List.getElem?_eq_some_iff.1 hx).1
  have HX := Lib.hid hx
  have HL := Lib.hid hn
  have HBS := Lib.hid hbase
  have hi1 : (i : Int) < (l.length : Int) := by omega
  have hi0 : (0 : Int) ≤ (i : Int) := by omega
  have S0 : Hid (InS 74 (kd true) w base b sv room l w.heap.size [.int .i64 0, .int .i64 0, .int .i64 0, .int .i64 0] (w.alloc (.cells #[.int .i64 0, .int .i64 0, .int .i64 0, .int .i64 0] 60)) sv) := Lib.hid ⟨MpTo.self h ((Below.refl _ _).alloc (Nat.le_refl _) _), zero_row w _, by decide, fun hf => by (have := (h.foot hf).2; omega), Nat.le_refl _⟩
  obtain ⟨g, cap, hsv, _, _, _, hgl, _⟩ := own_range h.own hx
  subst hsv
  clear h hp hn hx hi hbase
  go_enter Try.func74, Try.ntmps74
  go_upto_region 1 with fail
  generalize w.alloc (.cells #[.int .i64 0, .int .i64 0, .int .i64 0, .int .i64 0] 60) = W1 at S0 ⊢
  go_upto_region 4 with (go_at_call 32; refine (HF.out _ S0.out.way.at_ HL.out).mono ?_; rw [HP.out]; rintro e w2 ⟨rfl, hb⟩; have S := Lib.hid (S0.out.call hb); clear hb S0)
  have hc2 := S.out.way.at_.row.cell 2 _ rfl
  obtain ⟨g', c', he, _, _, _, _, hrg⟩ := own_range S.out.way.at_.own HX.out
  injection he with he _ _
  injection he with he
  injection he with he
  subst he
  have HC := Lib.hid (words_range hrg)
  clear hrg
  go_wp2_with (first
    | ((with_reducible refine wpList_load_at valT HC.out (wordsL_length _) rfl (.tmp 20) rfl ?_ ?_); (exact rfl))
    | ((with_reducible refine wpList_store_newrow valT (vs := wordsL x) (wordsL_length _) (wordsL_one _) rfl (.tmp 7) (.tmp 21) rfl rfl ?_ ?_ ?_); (exact rfl); (exact rfl); intro W4 hP hb hz; have S4 := Lib.hid (S.out.call hb); have HV := Lib.hid hP; have HVF : Hid (¬ Foot b (.slice (some ⟨g, 0, none⟩) l.length cap) w2.heap.size) := Lib.hid (fun hf => by (have := (S.out.way.at_.foot hf).2; omega)); clear hP hb hz S; generalize w2.heap.size = V at HV HVF ⊢)
    | (go_at_call 34; refine (used_lru base b _ room l i x W4 S4.out.way.at_ HX.out HL.out (Nat.le_trans HBS.out S4.out.way.but.size)).mono ?_; rintro e w5 ⟨rfl, sv5, hto⟩; have S5 := Lib.hid (S4.out.turn hto); have HV5 := Lib.hid (RowAt.but (v := .int .i64 x.a) (vs := [.int .i64 x.b, .int .i64 x.c, .int .i64 x.d]) HV.out hto.but HVF.out); have HR5 := Lib.hid S5.out.row; clear hto)
    | (with_reducible refine wpList_load_row valT (vs := wordsL x) HV5.out (wordsL_length _) rfl (.tmp 7) rfl rfl ?_)
    | ((with_reducible refine wpList_store_row valT HR5.out rfl (vs := wordsL x) (wordsL_length _) (wordsL_one _) rfl (.tmp 4) (.tmp 25) rfl ?_ ?_ ?_); (exact rfl); (exact rfl)))
  refine bodyPost_ret (results_row2 valT _ 4 5 rfl _ (HR5.out.put _ rfl) rfl rfl rfl) rfl ⟨rfl, sv5, S5.out.res⟩
theorem empty_own (w : World) (base : Nat) (t : TypeId) (hb : base ≤ w.heap.size) : (w.alloc (.cells #[] t)).ownsRow base t 5 (.slice (some ⟨w.heap.size, 0, none⟩) 0 0) 0 (cellsE []) := ⟨rfl, Or.inr ⟨w.heap.size, 0, #[], rfl, hb, heap_alloc_new w _, Nat.le_refl _, by unfold maxLen; omega, rfl, rfl⟩⟩
theorem ens_nil (w : World) : EnsAt w none 0 [] := ⟨rfl, ⟨fun h => by simp at h⟩⟩
set_option maxRecDepth 100000 in
set_option maxHeartbeats 2000000 in
theorem clone_any (g n c base : Nat) (l : List Z.En) (w : World) (h : w.ownsRow base 74 5 (.slice (some ⟨g, 0, none⟩) n c) n (cellsE l)) (hn : n ≤ 1000) :
    Calls Try.prog 31 #[.slice (some ⟨g, 0, none⟩) n c] w fun e w' => ∃ A d, e = .returned (.slice A n d) ∧ EnsAt w' A n l ∧ Below w.heap.size w w' := by
  have hln : l.length = n := by have := h.1; rw [cellsE_length] at this; omega
  obtain ⟨_, _, hgl, _⟩ := own_cap h
  have HL := Lib.hid hln
  have HW : Hid (Below w.heap.size w (w.alloc (.cells #[] 74))) := Lib.hid ((Below.refl _ _).alloc (Nat.le_refl _) _)
  have HE := Lib.hid (empty_own w w.heap.size 74 (Nat.le_refl _))
  have HS : Hid (∀ j u, (cellsE l)[j]? = some u → (w.alloc (.cells #[] 74)).cell? ((⟨g, 0, none⟩ : Addr).add j) = some u) := Lib.hid (fun j u hu => (owns_below h HW.out).cells rfl j u hu)
  have HC : Hid ((cellsE l).length = n * 5) := Lib.hid (by rw [cellsE_length, hln])
  have HZ : Hid (w.heap.size ≤ (w.alloc (.cells #[] 74)).heap.size) := Lib.hid (by simp)
  obtain ⟨i0, hi0, hz0, hs0, hb0⟩ := info_parts info_en
  have HI0 := Lib.hid hi0
  have HZ0 := Lib.hid hz0
  have HS0 := Lib.hid hs0
  have HB0 := Lib.hid hb0
  clear h hln hi0 hz0 hs0 hb0
  have hcmp : ∀ w, (binOp BinOp.eql 35 (.slice (some ⟨g, 0, none⟩) n c) (.slice none 0 0)).run Try.prog w = .ok (.bool false) w := fun w => by kernel_rfl
  go_enter Try.func31, Try.ntmps31
  go_wp2_with (at_builtin; go_must (refine wpList_append_own_at _ rfl (.tmp 5) (.tmp 6) 35 rfl w.heap.size 74 i0 _ 5 40 Try.underlying35 HI0.out HZ0.out HS0.out HB0.out rfl (by omega) _ 0 _ rfl HE.out ⟨g, 0, none⟩ n c (cellsE l) rfl HC.out HS.out (cellsE_one _) (by unfold maxLen; omega) (by omega) HZ.out ?_); intro v' w5 hown' hgrow hnil hloc; rw [Nat.zero_add] at hown'; obtain ⟨A, d, rfl⟩ := owns_slice hown'; have HF : Hid (EnsAt w5 A n l ∧ Below w.heap.size w w5) := Lib.hid ⟨own_ens hown' HL.out.symm, HW.out.grown hgrow HZ.out (fun k hk => by injection hk with hk; rw [← hk]; exact Nat.le_refl _)⟩; clear hown' hgrow hnil hloc)
  go_ret
  exact ⟨A, d, rfl, HF.out.1, HF.out.2⟩
theorem clone_nil (w : World) : Calls Try.prog 31 #[.slice none 0 0] w fun e w' => e = .returned (.slice none 0 0) ∧ Below w.heap.size w w' := by
  have hcmp : ∀ w, (binOp BinOp.eql 35 (.slice none 0 0) (.slice none 0 0)).run Try.prog w = .ok (.bool true) w := fun w => by kernel_rfl
  go_enter Try.func31, Try.ntmps31
  go_wp2
  refine bodyPost_ret (results_tmp rfl _ _ _) rfl ⟨rfl, Below.refl _ _⟩
theorem all_any (hd : Value) (base b : Nat) (sv : Value) (room : Nat) (l : List Z.En) (w : World) (h : MpAt 74 hd w base b sv room l) (hn : l.length ≤ 1000) :
    Calls Try.prog 18 #[.pointer (some ⟨b, 0, none⟩)] w fun e w' => ∃ A d, e = .returned (.slice A l.length d) ∧ EnsAt w' A l.length l ∧ Below w.heap.size w w' := by
  have hc2 := h.row.cell 2 _ rfl
  rcases h.own.2 with ⟨e1, e2⟩ | ⟨g, cap, cur, e1, _⟩
  · subst e1
    have hl : l = [] := List.eq_nil_of_length_eq_zero e2
    subst hl
    clear h
    have HC := Lib.hid (fun w => clone_nil w)
    go_enter Try.func18, Try.ntmps18
    go_wp2_with (go_at_call 31; refine (HC.out _).mono ?_; rintro e w5 ⟨rfl, hb⟩; have HB := Lib.hid hb; clear hb)
    go_ret
    exact ⟨none, 0, rfl, ens_nil _, HB.out⟩
  · subst e1
    have HC := Lib.hid (clone_any g l.length cap base l w h.own hn)
    clear h
    go_enter Try.func18, Try.ntmps18
    go_wp2_with (go_at_call 31; refine (HC.out).mono ?_; rintro e w5 ⟨A, d, rfl, he, hb⟩; have HB := Lib.hid hb; have HE := Lib.hid he; clear hb he)
    go_ret
    exact ⟨A, d, rfl, HE.out, HB.out⟩
end Go.Proofs.Ythngbakbiocadaa

/-
  The document's Put: the kinds of worlds of its regions, in which slices of the call's own grow beside an entry's own row.
-/
namespace Go.Proofs.Ythngbakbiocadaa
set_option maxRecDepth 100000
open Go.RowKit Go.Maps

theorem own_le {w : World} {base base' : Nat} {t : TypeId} {size : Nat} {v : Value} {n : Nat} {xs : List Value} (h : w.ownsRow base t size v n xs) (hb : base' ≤ base) : w.ownsRow base' t size v n xs := by
  refine ⟨h.1, ?_⟩
  rcases h.2 with h2 | ⟨g, cap, cur, h1, h2, h3⟩
  · exact Or.inl h2
  · exact Or.inr ⟨g, cap, cur, h1, Nat.le_trans hb h2, h3⟩
inductive RK
  | p (x : Option (Value × List Z.En)) (y : Option Nat)
  | d (v : Value)
def RkS (hd : Value) (wx : World) (base b : Nat) (sv : Value) (room : Nat) (l l' : List Z.En) (e : Z.En) : RK → World → Prop
  | .p x y, W => Below wx.heap.size wx W ∧ (∀ v xs, x = some (v, xs) → W.ownsRow wx.heap.size 59 5 v xs.length (cellsE xs)) ∧
    (∀ g, y = some g → wx.heap.size ≤ g ∧ g < W.heap.size ∧ (∀ j u, (enL e)[j]? = some u → W.cell? ((⟨g, 0, none⟩ : Addr).add j) = some u) ∧ ∀ v xs, x = some (v, xs) → v.ownBlock ≠ some g)
  | .d v, W => MpTo 59 hd wx base b sv room l' W v
def rkMay (L : List Nat) : RK → Nat → Bool
  | .d _, k => !(L.contains k)
  | _, _ => true
theorem rkMay_no {ops : Array Oper} {L : List Nat} {i : Nat} {s : RK} {N : Value → RK → Prop} (h : ∀ u s', N u s' → ∃ x y, s' = .p x y) : Lost .any ops (rkMay L) s i N := lost_no fun u s' hu k => by
  obtain ⟨x, y, rfl⟩ := h u s' hu
  rfl
theorem rkMay_last {ops : Array Oper} {L : List Nat} {i : Nat} {s : RK} {v : Value} (h : L.all (predB ops i) = true) : Lost .any ops (rkMay L) s i (fun _ s' => s' = .d v) := lost_those L h fun u s' hu k hk => by
  subst hu
  simpa [rkMay] using hk
section
variable {hd : Value} {wx : World} {base b : Nat} {sv : Value} {room : Nat} {l l' : List Z.En} {e : Z.En}
abbrev RE : TypeId := 59
abbrev RS : TypeId := 49
theorem RkS.but {s : RK} {W : World} (h : RkS hd wx base b sv room l l' e s W) : But (Foot b sv) wx W := by
  cases s with
  | p x y => exact But.of_below h.1
  | d v => exact MpTo.but (show MpTo RE hd wx base b sv room l' W v from h)
theorem RkS.row {s : RK} {W : World} (h0 : MpAt RE hd wx base b sv room l) (h : RkS hd wx base b sv room l l' e s W) {L : List Nat} {k : Nat} (hk : k ∈ L) (hm : rkMay L s k = true) : RowAt W b [hd, .int .i64 (room : Int), sv] := by
  cases s with
  | p x y => exact h0.row.step h.1
  | d v => simp [rkMay, hk] at hm
theorem RkS.other {s : RK} {W : World} {B : Nat} {v : Value} {vs : List Value} (hr : RowAt wx B (v :: vs)) (hf : ¬ Foot b sv B) (h : RkS hd wx base b sv room l l' e s W) : RowAt W B (v :: vs) := hr.but h.but hf
theorem rk_load {ρ : Operand → Value} {op : Oper} {W : World} {L : List Nat} {k : Nat} {s : RK} (h0 : MpAt RE hd wx base b sv room l) (hk : k ∈ L) (hm : rkMay L s k = true) (h : RkS hd wx base b sv room l l' e s W) (y : Operand)
    (ho : op.op = .load 49 y) (hy : ρ y = .pointer (some ⟨b, 2, none⟩)) : (execOp ρ op).run Try.prog W = .ok (.value sv) W := by
  have hc := (h.row h0 hk hm).cell 2 _ rfl
  unfold execOp
  simp only [ho, hy]
  go_simp
/-- a slice without entries is made -/
theorem rk_empty {a : Act} {op : Oper} {W : World} {y : Option Nat} (h : RkS hd wx base b sv room l l' e (.p none y) W) (hop : (execOp a.eval op).run Try.prog W = .ok (.value (.slice (some ⟨W.heap.size, 0, none⟩) 0 0)) (W.alloc (.cells #[] 59))) :
    Gives Try.prog (execOp a.eval op) W fun u w' => ∃ s', s' = RK.p (some (u, [])) y ∧ RkS hd wx base b sv room l l' e s' w' := by
  obtain ⟨h1, _, h3⟩ := h
  have hb : Below W.heap.size W (W.alloc (.cells #[] 59)) := (Below.refl _ _).alloc (Nat.le_refl _) _
  refine gives_to hop ⟨_, rfl, h1.trans (hb.mono h1.size), fun v xs hx => ?_, fun g hg => ?_⟩
  · injection hx with hx
    injection hx with e1 e2
    subst e1 e2
    exact empty_own W _ _ h1.size
  · obtain ⟨g1, g2, g3, _⟩ := h3 g hg
    refine ⟨g1, Nat.lt_of_lt_of_le g2 hb.size, fun j u hu => ?_, fun v xs hx => ?_⟩
    · have := g3 j u hu
      rw [Addr.add_mid] at this ⊢
      exact (hb.cell (p := ⟨g, 0 + j, none⟩) g2).trans this
    · injection hx with hx
      injection hx with e1 e2
      subst e1
      simp only [Value.ownBlock, ne_eq, Option.some.injEq]
      omega
/-- an entry's own row is made -/
theorem rk_one {a : Act} {op : Oper} {W : World} {x : Option (Value × List Z.En)} (h : RkS hd wx base b sv room l l' e (.p x none) W) (y : Operand) (ho : op.op = .buildSlice 49 1 #[(0, y)]) (hy : a.eval y = .agg (enL e).toArray) :
    Gives Try.prog (execOp a.eval op) W fun u w' => ∃ s', (∃ g, u = .slice (some ⟨g, 0, none⟩) 1 1 ∧ s' = RK.p x (some g)) ∧ RkS hd wx base b sv room l l' e s' w' := by
  obtain ⟨h1, h2, _⟩ := h
  have hb : Below W.heap.size W (W.alloc (.cells (enL e).toArray 59)) := (Below.refl _ _).alloc (Nat.le_refl _) _
  refine gives_to (exec_oneE (Or.inr ⟨rfl, rfl⟩) y ho hy) ⟨_, ⟨_, rfl, rfl⟩, h1.trans (hb.mono h1.size), fun v xs hx => owns_below (h2 v xs hx) hb, fun g hg => ?_⟩
  injection hg with hg
  subst hg
  refine ⟨h1.size, by simp, cell_new W (enL e) _, fun v xs hx => ?_⟩
  intro hv
  have := ((h2 v xs hx).lt _ hv).2
  omega
/-- what lies in a slice is appended -/
theorem rk_append {a : Act} {op : Oper} {W : World} {v : Value} {xs ys : List Z.En} {yy : Option Nat} (h : RkS hd wx base b sv room l l' e (.p (some (v, xs)) yy) W) (p q : Operand)
    (ho : op.op = .call { callee := .builtin .append, args := #[p, q], argTypes := #[49, 49] }) (hp : a.eval p = v) (ad : Addr) (m c : Nat) (hq : a.eval q = .slice (some ad) m c) (hm : ys.length = m)
    (hc : ∀ j u, (cellsE ys)[j]? = some u → W.cell? (ad.add j) = some u) (hn : xs.length + m ≤ 10000) :
    Gives Try.prog (execOp a.eval op) W fun u w' => ∃ s', s' = RK.p (some (u, xs ++ ys)) yy ∧ RkS hd wx base b sv room l l' e s' w' := by
  obtain ⟨h1, h2, h3⟩ := h
  have hown := h2 v xs rfl
  obtain ⟨i0, hi0, hz0, hs0, hb0⟩ := info_parts info_ren
  refine gives_append p q _ ho wx.heap.size 59 i0 _ 5 40 Try.underlying49 hi0 hz0 hs0 hb0 rfl (by omega) v xs.length (cellsE xs) hp hown ad m c (cellsE ys) hq (by rw [cellsE_length, hm]) hc (cellsE_one _) (by unfold maxLen; omega) (by omega) h1.size ?_
  intro v' w' hown' hg _ hloc
  refine ⟨_, rfl, h1.grown hg h1.size (fun k hk => (hown.lt k hk).1), fun u zs hx => ?_, fun g hgy => ?_⟩
  · injection hx with hx
    injection hx with e1 e2
    subst e1 e2
    rw [cellsE_app, List.length_append, hm]
    exact hown'
  · obtain ⟨g1, g2, g3, g4⟩ := h3 g hgy
    have hne := g4 v xs rfl
    refine ⟨g1, Nat.lt_of_lt_of_le g2 hg.size, fun j u hu => ?_, fun u zs hx => ?_⟩
    · have := g3 j u hu
      rw [Addr.add_mid] at this ⊢
      exact (World.cell?_of_block (a := ⟨g, 0 + j, none⟩) (hg.block g g2 (fun e => hne e.symm))).trans this
    · injection hx with hx
      injection hx with e1 e2
      subst e1
      rcases hloc with e | e
      · rw [e]; exact hne
      · rw [e]
        intro q
        injection q with q
        omega
/-- nothing is appended -/
theorem rk_nothing {a : Act} {op : Oper} {W : World} {v : Value} {xs : List Z.En} {yy : Option Nat} (h : RkS hd wx base b sv room l l' e (.p (some (v, xs)) yy) W) (p q : Operand)
    (ho : op.op = .call { callee := .builtin .append, args := #[p, q], argTypes := #[49, 49] }) (hp : a.eval p = v) (hq : a.eval q = .slice none 0 0) :
    Gives Try.prog (execOp a.eval op) W fun u w' => ∃ s', s' = RK.p (some (u, xs)) yy ∧ RkS hd wx base b sv room l l' e s' w' := by
  have h0 := h
  obtain ⟨h1, h2, h3⟩ := h
  obtain ⟨i0, hi0, hz0, hs0, hb0⟩ := info_parts info_ren
  have hr := run_append_owned_none (P := Try.prog) W wx.heap.size 49 op.type 59 i0 5 Try.underlying49 hi0 v xs.length (cellsE xs) (h2 v xs rfl)
  refine gives_to (v := v) (w' := W) ?_ ⟨_, rfl, h0⟩
  unfold execOp
  simp only [ho, resolve, invoke, builtin, Sem.run_bind, Sem.run_pure, Result.andThen_ok, List.map_toArray, List.map_cons, List.map_nil, hp, hq, hr]
/-- what was made is stored -/
theorem rk_store {a : Act} {op : Oper} {W : World} {v : Value} {xs : List Z.En} {yy : Option Nat} (h0 : MpAt RE hd wx base b sv room l) (hbw : base ≤ wx.heap.size) (h : RkS hd wx base b sv room l l' e (.p (some (v, xs)) yy) W) (hl : xs = l') (p q : Operand)
    (ho : op.op = .store 49 p q) (hp : a.eval p = .pointer (some ⟨b, 2, none⟩)) (hq : a.eval q = v) :
    Gives Try.prog (execOp a.eval op) W fun _ w' => ∃ s', s' = RK.d v ∧ RkS hd wx base b sv room l l' e s' w' := by
  subst hl
  obtain ⟨h1, h2, h3⟩ := h
  have hown := h2 v xs rfl
  obtain ⟨A, c, rfl⟩ := owns_slice hown
  have hr : RowAt W b [hd, .int .i64 (room : Int), sv] := h0.row.step h1
  refine gives_skip (run_store_slice (Or.inr rfl) p q ho hp hq (hr.cell 2 _ rfl) (hr.frozen 2 (show 2 < 3 by decide))) ⟨.d _, rfl, ?_⟩
  exact MpTo.stored h0 (But.of_below h1) (own_le hown hbw) (fun k hk => Or.inr (hown.lt k hk).1)
end
/-- the cells of a piece of what is owned: ahead of a place, behind it -/
theorem cells_ahead {w : World} {base : Nat} {t : TypeId} {g n cap : Nat} {l : List Z.En} (h : w.ownsRow base t 5 (.slice (some ⟨g, 0, none⟩) n cap) n (cellsE l)) (i : Nat) (hi : i ≤ n) : ∀ j u, (cellsE (l.take i))[j]? = some u → w.cell? ((⟨g, 0, none⟩ : Addr).add j) = some u := fun j u hu => by
  rw [cellsE_take] at hu
  refine h.cells rfl j u ?_
  have hj := (List.getElem?_eq_some_iff.1 hu).1
  rw [List.length_take] at hj
  rw [List.getElem?_take_of_lt (by omega)] at hu
  exact hu
theorem cells_behind {w : World} {base : Nat} {t : TypeId} {g n cap : Nat} {l : List Z.En} (h : w.ownsRow base t 5 (.slice (some ⟨g, 0, none⟩) n cap) n (cellsE l)) (j : Nat) (hj : j ≤ n) : ∃ A : Addr, (if cap = j then (some ⟨g, 0, none⟩ : Option Addr) else some ⟨g, j * 5, none⟩) = some A ∧ A.block = g ∧ (∀ t u, (cellsE (l.drop j))[t]? = some u → w.cell? (A.add t) = some u) := by
  have hln : l.length = n := by have := h.1; rw [cellsE_length] at this; omega
  obtain ⟨hnc, _⟩ := own_cap h
  by_cases hc : cap = j
  · refine ⟨⟨g, 0, none⟩, by rw [if_pos hc], rfl, fun t u hu => ?_⟩
    have : (cellsE (l.drop j)).length = 0 := by rw [cellsE_length, List.length_drop]; omega
    rw [List.length_eq_zero_iff.1 this] at hu
    simp at hu
  · refine ⟨⟨g, j * 5, none⟩, by rw [if_neg hc], rfl, fun t u hu => ?_⟩
    rw [cellsE_drop, List.getElem?_drop] at hu
    have h2 := h.cells (g := g) rfl (j * 5 + t) u hu
    have e1 : (⟨g, j * 5, none⟩ : Addr).add t = (⟨g, 0, none⟩ : Addr).add (j * 5 + t) := by unfold Addr.add; split <;> split <;> simp_all <;> omega
    rw [e1]
    exact h2
theorem cells_step {w w' : World} {A : Addr} {xs : List Value} (h : ∀ t u, xs[t]? = some u → w.cell? (A.add t) = some u) (hb : Below w.heap.size w w') (hA : A.block < w.heap.size) : ∀ t u, xs[t]? = some u → w'.cell? (A.add t) = some u := fun t u hu => by
  have hbl : (A.add t).block = A.block := by unfold Addr.add; split <;> (try split) <;> rfl
  exact (hb.cell (p := A.add t) (by rw [hbl]; exact hA)).trans (h t u hu)
end Go.Proofs.Ythngbakbiocadaa
