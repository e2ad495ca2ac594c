/-
  Put: a key's value is set.
-/
import Derived.Test.YtkomehplcacbcaaZset
import Derived.Test.YtkomehplcacbcaaZused
import Derived.BigQuiet
namespace Go.Proofs.Ytkomehplcacbcaa
open Go.RowKit Go.Maps

set_option maxRecDepth 100000 in
set_option maxHeartbeats 2000000 in
theorem put_hash_full (base b : Nat) (sv : Value) (room : Nat) (l : List Z.En) (x : Z.En) (w : World) (h : MpAt 62 (kd false) w base b sv room l) (hp : Z.pos x.key l = none) (hn : l.length ≤ 1000) (hr : l.length = room) (hr1 : 1 ≤ room) (hbase : base ≤ w.heap.size) :
    Calls Try.prog 10 #[.pointer (some ⟨b, 0, none⟩), .int .i64 x.key, .agg #[.int .i64 x.a, .int .i64 x.b, .int .i64 x.c, .int .i64 x.d]] w fun e w' => e = .returned (.int .i64 28) ∧ ∃ sv', MpTo 62 (kd false) w base b sv room (l) w' sv' := by
  have S0 : Hid (InS 62 (kd false) w base b sv room l w.heap.size (wordsL x) (w.alloc (.cells #[.int .i64 x.a, .int .i64 x.b, .int .i64 x.c, .int .i64 x.d] 39)) sv) := Lib.hid ⟨MpTo.self h ((Below.refl _ _).alloc (Nat.le_refl _) _), rowAt_new w (wordsL x) _, by rw [wordsL_length]; omega, fun hf => by (have := (h.foot hf).2; omega), Nat.le_refl _⟩
  have HF := Lib.hid (fun w => find_any (kd false) base b sv room l x.key w)
  have HBS := Lib.hid hbase
  have HP : Hid (Z.posI x.key l = -1) := Lib.hid (by unfold Z.posI; rw [hp])
  have HL := Lib.hid hn
  have hcmp : (room : Int) ≤ (l.length : Int) := by omega
  obtain ⟨A, c, rfl⟩ := owns_slice h.own
  have H1 := Lib.hid hr1
  have HRM := Lib.hid hr
  clear h hp hbase hn hr hr1
  go_enter Try.func10, Try.ntmps10
  go_upto_region 1 with fail
  generalize w.alloc (.cells #[.int .i64 x.a, .int .i64 x.b, .int .i64 x.c, .int .i64 x.d] 39) = W1 at S0 ⊢
  go_upto_region 8 with (go_at_call 24; refine (HF.out _ S0.out.way.at_ HL.out).mono ?_; rw [HP.out]; rintro e w2 ⟨rfl, hb⟩; have S := Lib.hid (S0.out.call hb); clear hb S0)
  have hc2 := S.out.way.at_.row.cell 2 _ rfl
  have hc1 := S.out.way.at_.row.cell 1 _ rfl
  have hc0 : w2.cell? ⟨b, 0, none⟩ = some (.int .i64 1) := S.out.way.at_.row.cell 0 _ rfl
  go_quiet (fail)
  go_wp2
  refine bodyPost_ret (results_tmp rfl _ _ _) rfl ⟨rfl, _, (S.out.call (W' := w2.drewN nq) (below_drewN w2 nq)).way⟩
set_option maxRecDepth 100000 in
set_option maxHeartbeats 2000000 in
theorem put_lru_full (base b : Nat) (sv : Value) (room : Nat) (l : List Z.En) (x : Z.En) (w : World) (h : MpAt 62 (kd true) w base b sv room l) (hp : Z.pos x.key l = none) (hn : l.length ≤ 1000) (hr : l.length = room) (hr1 : 1 ≤ room) (hbase : base ≤ w.heap.size) :
    Calls Try.prog 10 #[.pointer (some ⟨b, 0, none⟩), .int .i64 x.key, .agg #[.int .i64 x.a, .int .i64 x.b, .int .i64 x.c, .int .i64 x.d]] w fun e w' => e = .returned (.int .i64 0) ∧ ∃ sv', MpTo 62 (kd true) w base b sv room (l.eraseIdx 0 ++ [x]) w' sv' := by
  have S0 : Hid (InS 62 (kd true) w base b sv room l w.heap.size (wordsL x) (w.alloc (.cells #[.int .i64 x.a, .int .i64 x.b, .int .i64 x.c, .int .i64 x.d] 39)) sv) := Lib.hid ⟨MpTo.self h ((Below.refl _ _).alloc (Nat.le_refl _) _), rowAt_new w (wordsL x) _, by rw [wordsL_length]; omega, fun hf => by (have := (h.foot hf).2; omega), Nat.le_refl _⟩
  have HF := Lib.hid (fun w => find_any (kd true) base b sv room l x.key w)
  have HBS := Lib.hid hbase
  have HP : Hid (Z.posI x.key l = -1) := Lib.hid (by unfold Z.posI; rw [hp])
  have HL := Lib.hid hn
  have hcmp : (room : Int) ≤ (l.length : Int) := by omega
  obtain ⟨A, c, rfl⟩ := owns_slice h.own
  have H1 := Lib.hid hr1
  have HRM := Lib.hid hr
  clear h hp hbase hn hr hr1
  go_enter Try.func10, Try.ntmps10
  go_upto_region 1 with fail
  generalize w.alloc (.cells #[.int .i64 x.a, .int .i64 x.b, .int .i64 x.c, .int .i64 x.d] 39) = W1 at S0 ⊢
  go_upto_region 8 with (go_at_call 24; refine (HF.out _ S0.out.way.at_ HL.out).mono ?_; rw [HP.out]; rintro e w2 ⟨rfl, hb⟩; have S := Lib.hid (S0.out.call hb); clear hb S0)
  have hc2 := S.out.way.at_.row.cell 2 _ rfl
  have hc1 := S.out.way.at_.row.cell 1 _ rfl
  have hc0 : w2.cell? ⟨b, 0, none⟩ = some (.int .i64 2) := S.out.way.at_.row.cell 0 _ rfl
  go_quiet (fail)
  have S3 := Lib.hid (S.out.call (W' := w2.drewN nq) (below_drewN w2 nq))
  have H0 : Hid (0 < l.length) := Lib.hid (by have := HRM.out; have := H1.out; omega)
  go_upto_region 12 with (go_at_call 26; refine (rem_any (kd true) base b _ room l 0 _ S3.out.way.at_ H0.out HL.out).mono ?_; rintro e w5 ⟨rfl, sv2, hto⟩; have S9 := Lib.hid (S3.out.turn hto); clear hto)
  clear hc0 hc1 hc2 hcmp S S3
  obtain ⟨wx, hwx⟩ : ∃ wx, wx = w5.drew := ⟨_, rfl⟩
  have S1 := Lib.hid (S9.out.call (Below.refl _ _).drew)
  have HWX := Lib.hid hwx
  rw [← hwx] at S1
  have HM := Lib.hid S1.out.way.at_
  have HR := Lib.hid S1.out.row
  have HFAR := Lib.hid S1.out.far
  have HBW : Hid (base ≤ wx.heap.size) := Lib.hid (Nat.le_trans HBS.out S1.out.way.but.size)
  generalize w.heap.size = B at S1 HR HFAR ⊢
  clear hwx S9
  have HN : Hid ((l.eraseIdx 0).length ≤ 1000) := Lib.hid (by first | exact HL.out | (rw [List.length_eraseIdx]; have := HL.out; split <;> omega))
  refine wp_region_linm (ApS 62 (kd true) wx base b sv2 room (l.eraseIdx 0) x) (apMay 4) (fun i => i == 8 || i == 9 || i == 12) (fun i => [(.pointer (some ⟨b, 0, none⟩)), (.pointer (some ⟨b, 0, none⟩)), (.pointer (some ⟨b, 0, none⟩)), .pointer (some ⟨b, 2, none⟩), sv2, .int .i64 x.key, .agg (wordsL x).toArray, .agg (enL x).toArray, undef, undef, .pointer (some ⟨b, 0, none⟩), .pointer (some ⟨b, 2, none⟩), undef].getD i undef) (PK.a) (by kernel_rfl) (by kernel_rfl) (HWX.out.symm) (fun _ => rfl) ?_
  refine linm_step (i := 0) (d := some 43) (v := (.pointer (some ⟨b, 0, none⟩))) rfl rfl (by kernel_rfl) (by kernel_rfl) rfl rfl (ordm_value (by kernel_rfl) ?_) ?_
  · (intro _ w' _ _; go_simp)
  (try simp only [Act.put, List.setIfInBounds_toArray, List.set_cons_zero, List.set_cons_succ])
  refine linm_step (i := 1) (d := some 44) (v := (.pointer (some ⟨b, 0, none⟩))) rfl rfl (by kernel_rfl) (by kernel_rfl) rfl rfl (ordm_value (by kernel_rfl) ?_) ?_
  · (intro _ w' _ _; go_simp)
  (try simp only [Act.put, List.setIfInBounds_toArray, List.set_cons_zero, List.set_cons_succ])
  refine linm_step (i := 2) (d := some 45) (v := (.pointer (some ⟨b, 0, none⟩))) rfl rfl (by kernel_rfl) (by kernel_rfl) rfl rfl (ordm_value (by kernel_rfl) ?_) ?_
  · (intro _ w' _ _; go_simp)
  (try simp only [Act.put, List.setIfInBounds_toArray, List.set_cons_zero, List.set_cons_succ])
  refine linm_step (i := 3) (d := some 46) (v := .pointer (some ⟨b, 2, none⟩)) rfl rfl (by kernel_rfl) (by kernel_rfl) rfl rfl (ordm_value (by kernel_rfl) ?_) ?_
  · (intro _ w' _ _; go_simp)
  (try simp only [Act.put, List.setIfInBounds_toArray, List.set_cons_zero, List.set_cons_succ])
  refine linm_step (i := 4) (d := some 47) (v := sv2) rfl rfl (by kernel_rfl) (by kernel_rfl) rfl rfl (ordm_value (by kernel_rfl) (fun s w' hm hS => ap_load (Or.inl rfl) HM.out hm hS (.tmp 46) rfl rfl)) ?_
  (try simp only [Act.put, List.setIfInBounds_toArray, List.set_cons_zero, List.set_cons_succ])
  refine linm_step (i := 5) (d := some 48) (v := .int .i64 x.key) rfl rfl (by kernel_rfl) (by kernel_rfl) rfl rfl (ordm_value (by kernel_rfl) ?_) ?_
  · (intro _ w' _ _; go_simp)
  (try simp only [Act.put, List.setIfInBounds_toArray, List.set_cons_zero, List.set_cons_succ])
  refine linm_step (i := 6) (d := some 49) (v := .agg (wordsL x).toArray) rfl rfl (by kernel_rfl) (by kernel_rfl) rfl rfl (ordm_value (by kernel_rfl) (fun s w' hm hS => run_ld_row valT (ApS.other HM.out HR.out HFAR.out hS) (wordsL_length x) (.tmp 5) rfl rfl)) ?_
  (try simp only [Act.put, List.setIfInBounds_toArray, List.set_cons_zero, List.set_cons_succ])
  refine linm_step (i := 7) (d := some 50) (v := .agg (enL x).toArray) rfl rfl (by kernel_rfl) (by kernel_rfl) rfl rfl (ordm_value (by kernel_rfl) ?_) ?_
  · (intro _ w' _ _; unfold enL wordsL; go_simp)
  (try simp only [Act.put, List.setIfInBounds_toArray, List.set_cons_zero, List.set_cons_succ])
  refine linm_turn (i := 8) (d := some 51) [9, 12] (fun u s => u = .slice (some ⟨wx.heap.size, 0, none⟩) 1 1 ∧ s = PK.b) rfl rfl (by kernel_rfl) (by kernel_rfl) rfl (by kernel_rfl) (apMay_no (fun u s' hu => Or.inl hu.2)) (⟨_, _, rfl, rfl⟩) (by kernel_rfl) (fun W hS => ap_build (Or.inl ⟨rfl, rfl⟩) hS (.tmp 50) rfl rfl) ?_
  rintro u s' ⟨rfl, rfl⟩
  (try simp only [Act.put, List.setIfInBounds_toArray, List.set_cons_zero, List.set_cons_succ])
  refine linm_turn (i := 9) (d := some 52) [12] (fun u s => s = PK.c u) rfl rfl (by kernel_rfl) (by kernel_rfl) rfl (by kernel_rfl) (apMay_no (fun u s' hu => Or.inr ⟨u, hu⟩)) (⟨undef, _, rfl⟩) (by kernel_rfl) (fun W hS => ap_append (Or.inl ⟨rfl, rfl⟩) HM.out HN.out HBW.out hS (.tmp 47) (.tmp 51) rfl rfl rfl) ?_
  rintro v s' rfl
  (try simp only [Act.put, List.setIfInBounds_toArray, List.set_cons_zero, List.set_cons_succ])
  refine linm_step (i := 10) (d := some 53) (v := .pointer (some ⟨b, 0, none⟩)) rfl rfl (by kernel_rfl) (by kernel_rfl) rfl rfl (ordm_value (by kernel_rfl) ?_) ?_
  · (intro _ w' _ _; go_simp)
  (try simp only [Act.put, List.setIfInBounds_toArray, List.set_cons_zero, List.set_cons_succ])
  refine linm_step (i := 11) (d := some 54) (v := .pointer (some ⟨b, 2, none⟩)) rfl rfl (by kernel_rfl) (by kernel_rfl) rfl rfl (ordm_value (by kernel_rfl) ?_) ?_
  · (intro _ w' _ _; go_simp)
  (try simp only [Act.put, List.setIfInBounds_toArray, List.set_cons_zero, List.set_cons_succ])
  refine linm_turn (i := 12) (d := none) [] (fun _ s => s = PK.d v) rfl rfl (by kernel_rfl) (by kernel_rfl) rfl (by kernel_rfl) (apMay_last (by kernel_rfl)) (⟨undef, _, rfl⟩) (by kernel_rfl) (fun W hS => ap_store (Or.inl rfl) HM.out hS (.tmp 54) (.tmp 52) rfl rfl rfl) ?_
  rintro u s' rfl
  (try simp only [Act.put, List.setIfInBounds_toArray, List.set_cons_zero, List.set_cons_succ])
  refine linm_done (by kernel_rfl) ?_
  intro W hS
  have HF2 := Lib.hid (S1.out.way.trans (show MpTo 62 (kd true) wx base b sv2 room ((l.eraseIdx 0) ++ [x]) W v from hS))
  clear hS
  go_wp2
  go_ret
  exact ⟨rfl, v, HF2.out⟩
end Go.Proofs.Ytkomehplcacbcaa
