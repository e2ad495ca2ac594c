/-
  The document's Put of a key that is there, in a Hash.
-/
import Derived.Test.YtkomehplcacbcaaZrk2
import Derived.BigQuiet
namespace Go.Proofs.Ytkomehplcacbcaa
open Go.RowKit Go.Maps

set_option maxRecDepth 100000 in
set_option maxHeartbeats 4000000 in
theorem rput_there_hash (base b : Nat) (sv : Value) (room : Nat) (l : List Z.En) (x : Z.En) (i : Nat) (hp : Z.pos x.key l = some i) (w : World) (h : MpAt 67 (.bool false) w base b sv room l) (hn : l.length ≤ 1000) (hbase : base ≤ w.heap.size) :
    Calls Try.prog 11 #[.pointer (some ⟨b, 0, none⟩), .int .i64 x.key, .agg #[.int .i64 x.a, .int .i64 x.b, .int .i64 x.c, .int .i64 x.d]] w fun e w' => e = .returned (.int .i64 0) ∧ ∃ sv', MpTo 67 (.bool false) w base b sv room (l.set i x) w' sv' := by
  have S0 : Hid (InS 67 (.bool false) w base b sv room l w.heap.size (wordsL x) (w.alloc (.cells #[.int .i64 x.a, .int .i64 x.b, .int .i64 x.c, .int .i64 x.d] 38)) sv) := Lib.hid ⟨MpTo.self h ((Below.refl _ _).alloc (Nat.le_refl _) _), rowAt_new w (wordsL x) _, by rw [wordsL_length]; omega, fun hf => by (have := (h.foot hf).2; omega), Nat.le_refl _⟩
  have HF := Lib.hid (fun w => rat_any (.bool false) base b sv room l x.key w)
  have HBS := Lib.hid hbase
  have HL := Lib.hid hn
  obtain ⟨y, hy, hky, _⟩ := Z.pos_some hp
  have hi : i < l.length := (List.getElem?_eq_some_iff.1 hy).1
  have HP : Hid (Z.posI x.key l = (i : Int)) := Lib.hid (by unfold Z.posI; rw [hp])
  obtain ⟨g, cap, hsv, hnc, hcm, _, hgl, _⟩ := own_range h.own hy
  subst hsv
  have HI := Lib.hid hi
  have hi0 : (0 : Int) ≤ (i : Int) := by omega
  have hi1 : (i : Int) < (l.length : Int) := by omega
  have hic : i ≤ cap := by omega
  have hic1 : i + 1 ≤ cap := by omega
  have hin1 : i + 1 ≤ l.length := by omega
  have hw : IntKind.i64.wrap ((i : Int) + 1) = (i : Int) + 1 := by rw [IntKind.wrap_i64]; omega
  have hj0 : (0 : Int) ≤ (i : Int) + 1 := by omega
  have hj1 : (i : Int) + 1 ≤ (l.length : Int) := by omega
  have hcz : cap ≤ 9223372036854775807 := by unfold maxLen at hcm; omega
  have HT : Hid ((l.take i).length = i) := Lib.hid (by rw [List.length_take]; omega)
  have HD : Hid ((l.drop (i + 1)).length = l.length - (i + 1)) := Lib.hid (by rw [List.length_drop])
  clear h hp hy hky hi hbase hn hnc hcm
  go_enter Try.func11, Try.ntmps11
  go_upto_region 1 with fail
  generalize w.alloc (.cells #[.int .i64 x.a, .int .i64 x.b, .int .i64 x.c, .int .i64 x.d] 38) = W1 at S0 ⊢
  have hc0 : W1.cell? ⟨b, 0, none⟩ = some (.bool false) := S0.out.way.at_.row.cell 0 _ rfl
  have hc1 : W1.cell? ⟨b, 1, none⟩ = some (.int .i64 (room : Int)) := S0.out.way.at_.row.cell 1 _ rfl
  have hc2 : W1.cell? ⟨b, 2, none⟩ = some (.slice (some ⟨g, 0, none⟩) l.length cap) := S0.out.way.at_.row.cell 2 _ rfl
  go_upto_region 3 with (go_at_call 27; refine (HF.out _ S0.out.way.at_ HL.out).mono ?_; rw [HP.out]; rintro e w2 ⟨rfl, rfl⟩)
  clear hc0 hc1 hc2
  obtain ⟨wx, hwx⟩ : ∃ wx, wx = W1.drew := ⟨_, rfl⟩
  have S1 := Lib.hid (S0.out.call (Below.refl _ _).drew)
  have hdr : Below wx.heap.size wx W1.drew := by rw [hwx]; exact Below.refl _ _
  rw [← hwx] at S1
  have HDR := Lib.hid hdr
  have HM := Lib.hid S1.out.way.at_
  have HR := Lib.hid S1.out.row
  have HFAR := Lib.hid S1.out.far
  have HBW : Hid (base ≤ wx.heap.size) := Lib.hid (Nat.le_trans HBS.out S1.out.way.but.size)
  generalize w.heap.size = B at S1 HR HFAR ⊢
  clear hwx hdr
  have hAo := cells_behind (HM.out.own) (i + 1) hin1
  obtain ⟨A, hA, hAg, hcb⟩ := hAo
  have HCA := Lib.hid (cells_ahead HM.out.own i (by omega))
  have HCB := Lib.hid hcb
  have HG : Hid (g < wx.heap.size) := Lib.hid (HM.out.own.lt g rfl).2
  have HAG : Hid (A.block < wx.heap.size) := Lib.hid (by rw [hAg]; exact HG.out)
  clear hcb hAg hgl
  refine wp_region_linm (RkS (.bool false) wx base b (.slice (some ⟨g, 0, none⟩) l.length cap) room l (l.set i x) x) (rkMay [5, 17]) (fun i => i == 1 || i == 8 || i == 12 || i == 13 || i == 21 || i == 24) (fun qi => [(.pointer (some ⟨b, 0, none⟩)), undef, (.pointer (some ⟨b, 0, none⟩)), (.pointer (some ⟨b, 0, none⟩)), .pointer (some ⟨b, 2, none⟩), (.slice (some ⟨g, 0, none⟩) l.length cap), .int .i64 (i : Int), .slice (some ⟨g, 0, none⟩) i cap, undef, .int .i64 x.key, .agg (wordsL x).toArray, .agg (enL x).toArray, undef, undef, (.pointer (some ⟨b, 0, none⟩)), (.pointer (some ⟨b, 0, none⟩)), .pointer (some ⟨b, 2, none⟩), (.slice (some ⟨g, 0, none⟩) l.length cap), .int .i64 (i : Int), .int .i64 ((i : Int) + 1), .slice (some A) (l.length - (i + 1)) (cap - (i + 1)), undef, (.pointer (some ⟨b, 0, none⟩)), .pointer (some ⟨b, 2, none⟩), undef].getD qi undef) (RK.p none none) (by kernel_rfl) (by kernel_rfl) (⟨HDR.out, fun v xs h => (by cases h), fun g h => (by cases h)⟩) (fun _ => rfl) ?_
  refine linm_step (i := 0) (d := some 20) (v := (.pointer (some ⟨b, 0, none⟩))) rfl rfl (by kernel_rfl) (by kernel_rfl) rfl rfl (ordm_value (by kernel_rfl) ?_) ?_
  · (intro _ w' _ _; go_simp)
  (try simp only [Act.put, List.setIfInBounds_toArray, List.set_cons_zero, List.set_cons_succ])
  refine linm_step (i := 2) (d := some 22) (v := (.pointer (some ⟨b, 0, none⟩))) rfl rfl (by kernel_rfl) (by kernel_rfl) rfl rfl (ordm_value (by kernel_rfl) ?_) ?_
  · (intro _ w' _ _; go_simp)
  (try simp only [Act.put, List.setIfInBounds_toArray, List.set_cons_zero, List.set_cons_succ])
  refine linm_step (i := 3) (d := some 23) (v := (.pointer (some ⟨b, 0, none⟩))) rfl rfl (by kernel_rfl) (by kernel_rfl) rfl rfl (ordm_value (by kernel_rfl) ?_) ?_
  · (intro _ w' _ _; go_simp)
  (try simp only [Act.put, List.setIfInBounds_toArray, List.set_cons_zero, List.set_cons_succ])
  refine linm_step (i := 4) (d := some 24) (v := .pointer (some ⟨b, 2, none⟩)) rfl rfl (by kernel_rfl) (by kernel_rfl) rfl rfl (ordm_value (by kernel_rfl) ?_) ?_
  · (intro _ w' _ _; go_simp)
  (try simp only [Act.put, List.setIfInBounds_toArray, List.set_cons_zero, List.set_cons_succ])
  refine linm_step (i := 5) (d := some 25) (v := .slice (some ⟨g, 0, none⟩) l.length cap) rfl rfl (by kernel_rfl) (by kernel_rfl) rfl rfl (ordm_value (by kernel_rfl) (fun s w' hm hS => rk_load HM.out (L := [5, 17]) (k := 5) (by simp) hm hS (.tmp 24) rfl rfl)) ?_
  (try simp only [Act.put, List.setIfInBounds_toArray, List.set_cons_zero, List.set_cons_succ])
  refine linm_step (i := 6) (d := some 26) (v := .int .i64 (i : Int)) rfl rfl (by kernel_rfl) (by kernel_rfl) rfl rfl (ordm_value (by kernel_rfl) ?_) ?_
  · (intro _ w' _ _; go_simp)
  (try simp only [Act.put, List.setIfInBounds_toArray, List.set_cons_zero, List.set_cons_succ])
  refine linm_step (i := 7) (d := some 27) (v := .slice (some ⟨g, 0, none⟩) i cap) rfl rfl (by kernel_rfl) (by kernel_rfl) rfl rfl (ordm_value (by kernel_rfl) ?_) ?_
  · (intro _ w' _ _; go_simp)
  (try simp only [Act.put, List.setIfInBounds_toArray, List.set_cons_zero, List.set_cons_succ])
  refine linm_step (i := 9) (d := some 29) (v := .int .i64 x.key) rfl rfl (by kernel_rfl) (by kernel_rfl) rfl rfl (ordm_value (by kernel_rfl) ?_) ?_
  · (intro _ w' _ _; go_simp)
  (try simp only [Act.put, List.setIfInBounds_toArray, List.set_cons_zero, List.set_cons_succ])
  refine linm_step (i := 10) (d := some 30) (v := .agg (wordsL x).toArray) rfl rfl (by kernel_rfl) (by kernel_rfl) rfl rfl (ordm_value (by kernel_rfl) (fun s w' _ hS => run_ld_row rvalT (RkS.other HR.out HFAR.out hS) (wordsL_length x) (.tmp 5) rfl rfl)) ?_
  (try simp only [Act.put, List.setIfInBounds_toArray, List.set_cons_zero, List.set_cons_succ])
  refine linm_step (i := 11) (d := some 31) (v := .agg (enL x).toArray) rfl rfl (by kernel_rfl) (by kernel_rfl) rfl rfl (ordm_value (by kernel_rfl) ?_) ?_
  · (intro _ w' _ _; unfold enL wordsL; go_simp)
  (try simp only [Act.put, List.setIfInBounds_toArray, List.set_cons_zero, List.set_cons_succ])
  refine linm_step (i := 14) (d := some 34) (v := (.pointer (some ⟨b, 0, none⟩))) rfl rfl (by kernel_rfl) (by kernel_rfl) rfl rfl (ordm_value (by kernel_rfl) ?_) ?_
  · (intro _ w' _ _; go_simp)
  (try simp only [Act.put, List.setIfInBounds_toArray, List.set_cons_zero, List.set_cons_succ])
  refine linm_step (i := 15) (d := some 35) (v := (.pointer (some ⟨b, 0, none⟩))) rfl rfl (by kernel_rfl) (by kernel_rfl) rfl rfl (ordm_value (by kernel_rfl) ?_) ?_
  · (intro _ w' _ _; go_simp)
  (try simp only [Act.put, List.setIfInBounds_toArray, List.set_cons_zero, List.set_cons_succ])
  refine linm_step (i := 16) (d := some 36) (v := .pointer (some ⟨b, 2, none⟩)) rfl rfl (by kernel_rfl) (by kernel_rfl) rfl rfl (ordm_value (by kernel_rfl) ?_) ?_
  · (intro _ w' _ _; go_simp)
  (try simp only [Act.put, List.setIfInBounds_toArray, List.set_cons_zero, List.set_cons_succ])
  refine linm_step (i := 17) (d := some 37) (v := .slice (some ⟨g, 0, none⟩) l.length cap) rfl rfl (by kernel_rfl) (by kernel_rfl) rfl rfl (ordm_value (by kernel_rfl) (fun s w' hm hS => rk_load HM.out (L := [5, 17]) (k := 17) (by simp) hm hS (.tmp 36) rfl rfl)) ?_
  (try simp only [Act.put, List.setIfInBounds_toArray, List.set_cons_zero, List.set_cons_succ])
  refine linm_step (i := 18) (d := some 38) (v := .int .i64 (i : Int)) rfl rfl (by kernel_rfl) (by kernel_rfl) rfl rfl (ordm_value (by kernel_rfl) ?_) ?_
  · (intro _ w' _ _; go_simp)
  (try simp only [Act.put, List.setIfInBounds_toArray, List.set_cons_zero, List.set_cons_succ])
  refine linm_step (i := 19) (d := some 39) (v := .int .i64 ((i : Int) + 1)) rfl rfl (by kernel_rfl) (by kernel_rfl) rfl rfl (ordm_value (by kernel_rfl) ?_) ?_
  · (intro _ w' _ _; go_simp)
  (try simp only [Act.put, List.setIfInBounds_toArray, List.set_cons_zero, List.set_cons_succ])
  refine linm_step (i := 20) (d := some 40) (v := .slice (some A) (l.length - (i + 1)) (cap - (i + 1))) rfl rfl (by kernel_rfl) (by kernel_rfl) rfl rfl (ordm_value (by kernel_rfl) ?_) ?_
  · (intro _ w' _ _; go_simp)
  (try simp only [Act.put, List.setIfInBounds_toArray, List.set_cons_zero, List.set_cons_succ])
  refine linm_fork2 1 12 (di := some 21) (dj := some 32) (fun u s => s = RK.p (some (u, [])) none) (fun u s => ∃ g, u = .slice (some ⟨g, 0, none⟩) 1 1 ∧ s = RK.p none (some g)) (by kernel_rfl) (by decide) rfl rfl rfl rfl rfl rfl (rkMay_no (fun u s' hu => ⟨_, _, hu⟩)) (rkMay_no (fun u s' hu => by obtain ⟨g, _, h⟩ := hu; exact ⟨_, _, h⟩)) (by kernel_rfl) (fun W hS => rk_empty hS (by go_simp)) (by kernel_rfl) (fun W hS => rk_one hS (.tmp 31) rfl rfl) ?_ ?_
  · rintro v0 s' rfl
    (try simp only [Act.put, List.setIfInBounds_toArray, List.set_cons_zero, List.set_cons_succ])
    refine linm_fork2 8 12 (di := some 28) (dj := some 32) (fun u s => s = RK.p (some (u, [] ++ l.take i)) none) (fun u s => ∃ g, u = .slice (some ⟨g, 0, none⟩) 1 1 ∧ s = RK.p (some (v0, [])) (some g)) (by kernel_rfl) (by decide) rfl rfl rfl rfl rfl rfl (rkMay_no (fun u s' hu => ⟨_, _, hu⟩)) (rkMay_no (fun u s' hu => by obtain ⟨g, _, h⟩ := hu; exact ⟨_, _, h⟩)) (by kernel_rfl) (fun W hS => rk_append (ys := l.take i) hS (.tmp 21) (.tmp 27) rfl rfl ⟨g, 0, none⟩ i cap rfl HT.out (cells_step HCA.out hS.1 HG.out) (by have := HI.out; have := HL.out; simp; omega)) (by kernel_rfl) (fun W hS => rk_one hS (.tmp 31) rfl rfl) ?_ ?_
    · rintro v1 s' rfl
      (try simp only [Act.put, List.setIfInBounds_toArray, List.set_cons_zero, List.set_cons_succ])
      refine linm_sole 12 (di := some 32) (fun u s => ∃ g, u = .slice (some ⟨g, 0, none⟩) 1 1 ∧ s = RK.p (some (v1, [] ++ l.take i)) (some g)) (by kernel_rfl) rfl rfl rfl (rkMay_no (fun u s' hu => by obtain ⟨g, _, h⟩ := hu; exact ⟨_, _, h⟩)) (by kernel_rfl) (fun W hS => rk_one hS (.tmp 31) rfl rfl) ?_
      rintro _ s' ⟨g9, rfl, rfl⟩
      (try simp only [Act.put, List.setIfInBounds_toArray, List.set_cons_zero, List.set_cons_succ])
      refine linm_sole 13 (di := some 33) (fun u s => s = RK.p (some (u, [] ++ l.take i ++ [x])) (some g9)) (by kernel_rfl) rfl rfl rfl (rkMay_no (fun u s' hu => ⟨_, _, hu⟩)) (by kernel_rfl) (fun W hS => rk_append (ys := [x]) hS (.tmp 28) (.tmp 32) rfl rfl ⟨g9, 0, none⟩ 1 1 rfl rfl (by rw [cellsE_sing]; exact (hS.2.2 g9 rfl).2.2.1) (by have := HI.out; have := HL.out; simp; omega)) ?_
      rintro v2 s' rfl
      (try simp only [Act.put, List.setIfInBounds_toArray, List.set_cons_zero, List.set_cons_succ])
      refine linm_sole 21 (di := some 41) (fun u s => s = RK.p (some (u, [] ++ l.take i ++ [x] ++ l.drop (i + 1))) (some g9)) (by kernel_rfl) rfl rfl rfl (rkMay_no (fun u s' hu => ⟨_, _, hu⟩)) (by kernel_rfl) (fun W hS => rk_append (ys := l.drop (i + 1)) hS (.tmp 33) (.tmp 40) rfl rfl A (l.length - (i + 1)) (cap - (i + 1)) rfl HD.out (cells_step HCB.out hS.1 HAG.out) (by have := HI.out; have := HL.out; simp; omega)) ?_
      rintro v3 s' rfl
      (try simp only [Act.put, List.setIfInBounds_toArray, List.set_cons_zero, List.set_cons_succ])
      refine linm_step (i := 22) (d := some 42) (v := (.pointer (some ⟨b, 0, none⟩))) rfl rfl (by kernel_rfl) (by kernel_rfl) rfl rfl (ordm_value (by kernel_rfl) ?_) ?_
      · (intro _ w' _ _; go_simp)
      (try simp only [Act.put, List.setIfInBounds_toArray, List.set_cons_zero, List.set_cons_succ])
      refine linm_step (i := 23) (d := some 43) (v := .pointer (some ⟨b, 2, none⟩)) rfl rfl (by kernel_rfl) (by kernel_rfl) rfl rfl (ordm_value (by kernel_rfl) ?_) ?_
      · (intro _ w' _ _; go_simp)
      (try simp only [Act.put, List.setIfInBounds_toArray, List.set_cons_zero, List.set_cons_succ])
      refine linm_sole 24 (di := none) (fun _ s => s = RK.d v3) (by kernel_rfl) rfl rfl rfl (rkMay_last (by kernel_rfl)) (by kernel_rfl) (fun W hS => rk_store HM.out HBW.out hS (set_parts HI.out x) (.tmp 43) (.tmp 41) rfl rfl rfl) ?_
      rintro u s' rfl
      (try simp only [Act.put, List.setIfInBounds_toArray, List.set_cons_zero, List.set_cons_succ])
      refine linm_done (by kernel_rfl) ?_
      intro W hS
      have HF2 := Lib.hid (S1.out.way.trans (show MpTo 67 (.bool false) wx base b (.slice (some ⟨g, 0, none⟩) l.length cap) room (l.set i x) W v3 from hS))
      clear hS
      go_wp2
      refine bodyPost_ret (results_tmp rfl _ _ _) rfl ?_
      exact ⟨rfl, v3, HF2.out⟩
    · rintro _ s' ⟨g9, rfl, rfl⟩
      (try simp only [Act.put, List.setIfInBounds_toArray, List.set_cons_zero, List.set_cons_succ])
      refine linm_sole 8 (di := some 28) (fun u s => s = RK.p (some (u, [] ++ l.take i)) (some g9)) (by kernel_rfl) rfl rfl rfl (rkMay_no (fun u s' hu => ⟨_, _, hu⟩)) (by kernel_rfl) (fun W hS => rk_append (ys := l.take i) hS (.tmp 21) (.tmp 27) rfl rfl ⟨g, 0, none⟩ i cap rfl HT.out (cells_step HCA.out hS.1 HG.out) (by have := HI.out; have := HL.out; simp; omega)) ?_
      rintro v1 s' rfl
      (try simp only [Act.put, List.setIfInBounds_toArray, List.set_cons_zero, List.set_cons_succ])
      refine linm_sole 13 (di := some 33) (fun u s => s = RK.p (some (u, [] ++ l.take i ++ [x])) (some g9)) (by kernel_rfl) rfl rfl rfl (rkMay_no (fun u s' hu => ⟨_, _, hu⟩)) (by kernel_rfl) (fun W hS => rk_append (ys := [x]) hS (.tmp 28) (.tmp 32) rfl rfl ⟨g9, 0, none⟩ 1 1 rfl rfl (by rw [cellsE_sing]; exact (hS.2.2 g9 rfl).2.2.1) (by have := HI.out; have := HL.out; simp; omega)) ?_
      rintro v2 s' rfl
      (try simp only [Act.put, List.setIfInBounds_toArray, List.set_cons_zero, List.set_cons_succ])
      refine linm_sole 21 (di := some 41) (fun u s => s = RK.p (some (u, [] ++ l.take i ++ [x] ++ l.drop (i + 1))) (some g9)) (by kernel_rfl) rfl rfl rfl (rkMay_no (fun u s' hu => ⟨_, _, hu⟩)) (by kernel_rfl) (fun W hS => rk_append (ys := l.drop (i + 1)) hS (.tmp 33) (.tmp 40) rfl rfl A (l.length - (i + 1)) (cap - (i + 1)) rfl HD.out (cells_step HCB.out hS.1 HAG.out) (by have := HI.out; have := HL.out; simp; omega)) ?_
      rintro v3 s' rfl
      (try simp only [Act.put, List.setIfInBounds_toArray, List.set_cons_zero, List.set_cons_succ])
      refine linm_step (i := 22) (d := some 42) (v := (.pointer (some ⟨b, 0, none⟩))) rfl rfl (by kernel_rfl) (by kernel_rfl) rfl rfl (ordm_value (by kernel_rfl) ?_) ?_
      · (intro _ w' _ _; go_simp)
      (try simp only [Act.put, List.setIfInBounds_toArray, List.set_cons_zero, List.set_cons_succ])
      refine linm_step (i := 23) (d := some 43) (v := .pointer (some ⟨b, 2, none⟩)) rfl rfl (by kernel_rfl) (by kernel_rfl) rfl rfl (ordm_value (by kernel_rfl) ?_) ?_
      · (intro _ w' _ _; go_simp)
      (try simp only [Act.put, List.setIfInBounds_toArray, List.set_cons_zero, List.set_cons_succ])
      refine linm_sole 24 (di := none) (fun _ s => s = RK.d v3) (by kernel_rfl) rfl rfl rfl (rkMay_last (by kernel_rfl)) (by kernel_rfl) (fun W hS => rk_store HM.out HBW.out hS (set_parts HI.out x) (.tmp 43) (.tmp 41) rfl rfl rfl) ?_
      rintro u s' rfl
      (try simp only [Act.put, List.setIfInBounds_toArray, List.set_cons_zero, List.set_cons_succ])
      refine linm_done (by kernel_rfl) ?_
      intro W hS
      have HF2 := Lib.hid (S1.out.way.trans (show MpTo 67 (.bool false) wx base b (.slice (some ⟨g, 0, none⟩) l.length cap) room (l.set i x) W v3 from hS))
      clear hS
      go_wp2
      refine bodyPost_ret (results_tmp rfl _ _ _) rfl ?_
      exact ⟨rfl, v3, HF2.out⟩
  · rintro _ s' ⟨g9, rfl, rfl⟩
    (try simp only [Act.put, List.setIfInBounds_toArray, List.set_cons_zero, List.set_cons_succ])
    refine linm_sole 1 (di := some 21) (fun u s => s = RK.p (some (u, [])) (some g9)) (by kernel_rfl) rfl rfl rfl (rkMay_no (fun u s' hu => ⟨_, _, hu⟩)) (by kernel_rfl) (fun W hS => rk_empty hS (by go_simp)) ?_
    rintro v0 s' rfl
    (try simp only [Act.put, List.setIfInBounds_toArray, List.set_cons_zero, List.set_cons_succ])
    refine linm_sole 8 (di := some 28) (fun u s => s = RK.p (some (u, [] ++ l.take i)) (some g9)) (by kernel_rfl) rfl rfl rfl (rkMay_no (fun u s' hu => ⟨_, _, hu⟩)) (by kernel_rfl) (fun W hS => rk_append (ys := l.take i) hS (.tmp 21) (.tmp 27) rfl rfl ⟨g, 0, none⟩ i cap rfl HT.out (cells_step HCA.out hS.1 HG.out) (by have := HI.out; have := HL.out; simp; omega)) ?_
    rintro v1 s' rfl
    (try simp only [Act.put, List.setIfInBounds_toArray, List.set_cons_zero, List.set_cons_succ])
    refine linm_sole 13 (di := some 33) (fun u s => s = RK.p (some (u, [] ++ l.take i ++ [x])) (some g9)) (by kernel_rfl) rfl rfl rfl (rkMay_no (fun u s' hu => ⟨_, _, hu⟩)) (by kernel_rfl) (fun W hS => rk_append (ys := [x]) hS (.tmp 28) (.tmp 32) rfl rfl ⟨g9, 0, none⟩ 1 1 rfl rfl (by rw [cellsE_sing]; exact (hS.2.2 g9 rfl).2.2.1) (by have := HI.out; have := HL.out; simp; omega)) ?_
    rintro v2 s' rfl
    (try simp only [Act.put, List.setIfInBounds_toArray, List.set_cons_zero, List.set_cons_succ])
    refine linm_sole 21 (di := some 41) (fun u s => s = RK.p (some (u, [] ++ l.take i ++ [x] ++ l.drop (i + 1))) (some g9)) (by kernel_rfl) rfl rfl rfl (rkMay_no (fun u s' hu => ⟨_, _, hu⟩)) (by kernel_rfl) (fun W hS => rk_append (ys := l.drop (i + 1)) hS (.tmp 33) (.tmp 40) rfl rfl A (l.length - (i + 1)) (cap - (i + 1)) rfl HD.out (cells_step HCB.out hS.1 HAG.out) (by have := HI.out; have := HL.out; simp; omega)) ?_
    rintro v3 s' rfl
    (try simp only [Act.put, List.setIfInBounds_toArray, List.set_cons_zero, List.set_cons_succ])
    refine linm_step (i := 22) (d := some 42) (v := (.pointer (some ⟨b, 0, none⟩))) rfl rfl (by kernel_rfl) (by kernel_rfl) rfl rfl (ordm_value (by kernel_rfl) ?_) ?_
    · (intro _ w' _ _; go_simp)
    (try simp only [Act.put, List.setIfInBounds_toArray, List.set_cons_zero, List.set_cons_succ])
    refine linm_step (i := 23) (d := some 43) (v := .pointer (some ⟨b, 2, none⟩)) rfl rfl (by kernel_rfl) (by kernel_rfl) rfl rfl (ordm_value (by kernel_rfl) ?_) ?_
    · (intro _ w' _ _; go_simp)
    (try simp only [Act.put, List.setIfInBounds_toArray, List.set_cons_zero, List.set_cons_succ])
    refine linm_sole 24 (di := none) (fun _ s => s = RK.d v3) (by kernel_rfl) rfl rfl rfl (rkMay_last (by kernel_rfl)) (by kernel_rfl) (fun W hS => rk_store HM.out HBW.out hS (set_parts HI.out x) (.tmp 43) (.tmp 41) rfl rfl rfl) ?_
    rintro u s' rfl
    (try simp only [Act.put, List.setIfInBounds_toArray, List.set_cons_zero, List.set_cons_succ])
    refine linm_done (by kernel_rfl) ?_
    intro W hS
    have HF2 := Lib.hid (S1.out.way.trans (show MpTo 67 (.bool false) wx base b (.slice (some ⟨g, 0, none⟩) l.length cap) room (l.set i x) W v3 from hS))
    clear hS
    go_wp2
    refine bodyPost_ret (results_tmp rfl _ _ _) rfl ?_
    exact ⟨rfl, v3, HF2.out⟩
end Go.Proofs.Ytkomehplcacbcaa
