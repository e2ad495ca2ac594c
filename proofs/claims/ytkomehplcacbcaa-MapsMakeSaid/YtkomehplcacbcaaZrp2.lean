/-
  The document's Put of a key that is there, in an Lru.
-/
import Derived.Test.YtkomehplcacbcaaZrk2
import Derived.BigQuiet
namespace Go.Proofs.Ytkomehplcacbcaa
open Go.RowKit Go.Maps

set_option maxRecDepth 100000 in
set_option maxHeartbeats 4000000 in
theorem rput_there_lru (base b : Nat) (sv : Value) (room : Nat) (l : List Z.En) (x : Z.En) (i : Nat) (hp : Z.pos x.key l = some i) (w : World) (h : MpAt 67 (.bool true) w base b sv room l) (hn : l.length ≤ 1000) (hbase : base ≤ w.heap.size) :
    Calls Try.prog 11 #[.pointer (some ⟨b, 0, none⟩), .int .i64 x.key, .agg #[.int .i64 x.a, .int .i64 x.b, .int .i64 x.c, .int .i64 x.d]] w fun e w' => e = .returned (.int .i64 0) ∧ ∃ sv', MpTo 67 (.bool true) w base b sv room (l.eraseIdx i ++ [x]) w' sv' := by
  have S0 : Hid (InS 67 (.bool true) w base b sv room l w.heap.size (wordsL x) (w.alloc (.cells #[.int .i64 x.a, .int .i64 x.b, .int .i64 x.c, .int .i64 x.d] 38)) sv) := Lib.hid ⟨MpTo.self h ((Below.refl _ _).alloc (Nat.le_refl _) _), rowAt_new w (wordsL x) _, by rw [wordsL_length]; omega, fun hf => by (have := (h.foot hf).2; omega), Nat.le_refl _⟩
  have HF := Lib.hid (fun w => rat_any (.bool true) base b sv room l x.key w)
  have HBS := Lib.hid hbase
  have HL := Lib.hid hn
  obtain ⟨y, hy, hky, _⟩ := Z.pos_some hp
  have hi : i < l.length := (List.getElem?_eq_some_iff.1 hy).1
  have HP : Hid (Z.posI x.key l = (i : Int)) := Lib.hid (by unfold Z.posI; rw [hp])
  have HI := Lib.hid hi
  have hi0 : (0 : Int) ≤ (i : Int) := by omega
  have HLE : Hid ((l.eraseIdx i).length ≤ 1000) := Lib.hid (by rw [List.length_eraseIdx, if_pos hi]; omega)
  clear h hp hy hky hi hbase hn
  go_enter Try.func11, Try.ntmps11
  go_upto_region 1 with fail
  generalize w.alloc (.cells #[.int .i64 x.a, .int .i64 x.b, .int .i64 x.c, .int .i64 x.d] 38) = W1 at S0 ⊢
  have hc0 : W1.cell? ⟨b, 0, none⟩ = some (.bool true) := S0.out.way.at_.row.cell 0 _ rfl
  have hc1 : W1.cell? ⟨b, 1, none⟩ = some (.int .i64 (room : Int)) := S0.out.way.at_.row.cell 1 _ rfl
  have hc2 : W1.cell? ⟨b, 2, none⟩ = some sv := S0.out.way.at_.row.cell 2 _ rfl
  go_upto_region 6 with (go_at_call 27; refine (HF.out _ S0.out.way.at_ HL.out).mono ?_; rw [HP.out]; rintro e w2 ⟨rfl, rfl⟩)
  clear hc0 hc1 hc2
  obtain ⟨wx, hwx⟩ : ∃ wx, wx = W1.drew := ⟨_, rfl⟩
  have S1 := Lib.hid (S0.out.call (Below.refl _ _).drew)
  have hdr : Below wx.heap.size wx W1.drew := by rw [hwx]; exact Below.refl _ _
  rw [← hwx] at S1
  have HDR := Lib.hid hdr
  have HM := Lib.hid S1.out.way.at_
  have HR := Lib.hid S1.out.row
  have HFAR := Lib.hid S1.out.far
  have HBW : Hid (base ≤ wx.heap.size) := Lib.hid (Nat.le_trans HBS.out S1.out.way.but.size)
  generalize w.heap.size = B at S1 HR HFAR ⊢
  clear hwx hdr
  refine wp_region_linm (RkS (.bool true) wx base b sv room l (l.eraseIdx i ++ [x]) x) (rkMay []) (fun i => i == 3 || i == 7 || i == 8 || i == 11) (fun qi => [(.pointer (some ⟨b, 0, none⟩)), (.pointer (some ⟨b, 0, none⟩)), .int .i64 (i : Int), undef, .int .i64 x.key, .agg (wordsL x).toArray, .agg (enL x).toArray, undef, undef, (.pointer (some ⟨b, 0, none⟩)), .pointer (some ⟨b, 2, none⟩), undef].getD qi undef) (RK.p none none) (by kernel_rfl) (by kernel_rfl) (⟨HDR.out, fun v xs h => (by cases h), fun g h => (by cases h)⟩) (fun _ => rfl) ?_
  refine linm_step (i := 0) (d := some 46) (v := (.pointer (some ⟨b, 0, none⟩))) rfl rfl (by kernel_rfl) (by kernel_rfl) rfl rfl (ordm_value (by kernel_rfl) ?_) ?_
  · (intro _ w' _ _; go_simp)
  (try simp only [Act.put, List.setIfInBounds_toArray, List.set_cons_zero, List.set_cons_succ])
  refine linm_step (i := 1) (d := some 47) (v := (.pointer (some ⟨b, 0, none⟩))) rfl rfl (by kernel_rfl) (by kernel_rfl) rfl rfl (ordm_value (by kernel_rfl) ?_) ?_
  · (intro _ w' _ _; go_simp)
  (try simp only [Act.put, List.setIfInBounds_toArray, List.set_cons_zero, List.set_cons_succ])
  refine linm_step (i := 2) (d := some 48) (v := .int .i64 (i : Int)) rfl rfl (by kernel_rfl) (by kernel_rfl) rfl rfl (ordm_value (by kernel_rfl) ?_) ?_
  · (intro _ w' _ _; go_simp)
  (try simp only [Act.put, List.setIfInBounds_toArray, List.set_cons_zero, List.set_cons_succ])
  refine linm_step (i := 4) (d := some 50) (v := .int .i64 x.key) rfl rfl (by kernel_rfl) (by kernel_rfl) rfl rfl (ordm_value (by kernel_rfl) ?_) ?_
  · (intro _ w' _ _; go_simp)
  (try simp only [Act.put, List.setIfInBounds_toArray, List.set_cons_zero, List.set_cons_succ])
  refine linm_step (i := 5) (d := some 51) (v := .agg (wordsL x).toArray) rfl rfl (by kernel_rfl) (by kernel_rfl) rfl rfl (ordm_value (by kernel_rfl) (fun s w' _ hS => run_ld_row rvalT (RkS.other HR.out HFAR.out hS) (wordsL_length x) (.tmp 5) rfl rfl)) ?_
  (try simp only [Act.put, List.setIfInBounds_toArray, List.set_cons_zero, List.set_cons_succ])
  refine linm_step (i := 6) (d := some 52) (v := .agg (enL x).toArray) rfl rfl (by kernel_rfl) (by kernel_rfl) rfl rfl (ordm_value (by kernel_rfl) ?_) ?_
  · (intro _ w' _ _; unfold enL wordsL; go_simp)
  (try simp only [Act.put, List.setIfInBounds_toArray, List.set_cons_zero, List.set_cons_succ])
  refine linm_fork2 3 7 (di := some 49) (dj := some 53) (fun u s => s = RK.p (some (u, l.eraseIdx i)) none) (fun u s => ∃ g, u = .slice (some ⟨g, 0, none⟩) 1 1 ∧ s = RK.p none (some g)) (by kernel_rfl) (by decide) rfl rfl rfl rfl rfl rfl (rkMay_no (fun u s' hu => ⟨_, _, hu⟩)) (rkMay_no (fun u s' hu => by obtain ⟨g, _, h⟩ := hu; exact ⟨_, _, h⟩)) (by kernel_rfl) (fun W hS => rk_without (xs := l.eraseIdx i) (f := 28) (args := #[.pointer (some ⟨b, 0, none⟩), .int .i64 (i : Int)]) hS (by go_simp <;> rfl) (rwithout_any (.bool true) base b sv room l i W (HM.out.step hS.1) HI.out HL.out)) (by kernel_rfl) (fun W hS => rk_one hS (.tmp 52) rfl rfl) ?_ ?_
  · rintro v1 s' rfl
    (try simp only [Act.put, List.setIfInBounds_toArray, List.set_cons_zero, List.set_cons_succ])
    refine linm_sole 7 (di := some 53) (fun u s => ∃ g, u = .slice (some ⟨g, 0, none⟩) 1 1 ∧ s = RK.p (some (v1, l.eraseIdx i)) (some g)) (by kernel_rfl) rfl rfl rfl (rkMay_no (fun u s' hu => by obtain ⟨g, _, h⟩ := hu; exact ⟨_, _, h⟩)) (by kernel_rfl) (fun W hS => rk_one hS (.tmp 52) rfl rfl) ?_
    rintro _ s' ⟨g9, rfl, rfl⟩
    (try simp only [Act.put, List.setIfInBounds_toArray, List.set_cons_zero, List.set_cons_succ])
    refine linm_sole 8 (di := some 54) (fun u s => s = RK.p (some (u, l.eraseIdx i ++ [x])) (some g9)) (by kernel_rfl) rfl rfl rfl (rkMay_no (fun u s' hu => ⟨_, _, hu⟩)) (by kernel_rfl) (fun W hS => rk_append (ys := [x]) hS (.tmp 49) (.tmp 53) rfl rfl ⟨g9, 0, none⟩ 1 1 rfl rfl (by rw [cellsE_sing]; exact (hS.2.2 g9 rfl).2.2.1) (by have := HLE.out; omega)) ?_
    rintro v2 s' rfl
    (try simp only [Act.put, List.setIfInBounds_toArray, List.set_cons_zero, List.set_cons_succ])
    refine linm_step (i := 9) (d := some 55) (v := (.pointer (some ⟨b, 0, none⟩))) rfl rfl (by kernel_rfl) (by kernel_rfl) rfl rfl (ordm_value (by kernel_rfl) ?_) ?_
    · (intro _ w' _ _; go_simp)
    (try simp only [Act.put, List.setIfInBounds_toArray, List.set_cons_zero, List.set_cons_succ])
    refine linm_step (i := 10) (d := some 56) (v := .pointer (some ⟨b, 2, none⟩)) rfl rfl (by kernel_rfl) (by kernel_rfl) rfl rfl (ordm_value (by kernel_rfl) ?_) ?_
    · (intro _ w' _ _; go_simp)
    (try simp only [Act.put, List.setIfInBounds_toArray, List.set_cons_zero, List.set_cons_succ])
    refine linm_sole 11 (di := none) (fun _ s => s = RK.d v2) (by kernel_rfl) rfl rfl rfl (rkMay_last (by kernel_rfl)) (by kernel_rfl) (fun W hS => rk_store HM.out HBW.out hS rfl (.tmp 56) (.tmp 54) rfl rfl rfl) ?_
    rintro u s' rfl
    (try simp only [Act.put, List.setIfInBounds_toArray, List.set_cons_zero, List.set_cons_succ])
    refine linm_done (by kernel_rfl) ?_
    intro W hS
    have HF2 := Lib.hid (S1.out.way.trans (show MpTo 67 (.bool true) wx base b sv room (l.eraseIdx i ++ [x]) W v2 from hS))
    clear hS
    go_wp2
    refine bodyPost_ret (results_tmp rfl _ _ _) rfl ?_
    exact ⟨rfl, v2, HF2.out⟩
  · rintro _ s' ⟨g9, rfl, rfl⟩
    (try simp only [Act.put, List.setIfInBounds_toArray, List.set_cons_zero, List.set_cons_succ])
    refine linm_sole 3 (di := some 49) (fun u s => s = RK.p (some (u, l.eraseIdx i)) (some g9)) (by kernel_rfl) rfl rfl rfl (rkMay_no (fun u s' hu => ⟨_, _, hu⟩)) (by kernel_rfl) (fun W hS => rk_without (xs := l.eraseIdx i) (f := 28) (args := #[.pointer (some ⟨b, 0, none⟩), .int .i64 (i : Int)]) hS (by go_simp <;> rfl) (rwithout_any (.bool true) base b sv room l i W (HM.out.step hS.1) HI.out HL.out)) ?_
    rintro v1 s' rfl
    (try simp only [Act.put, List.setIfInBounds_toArray, List.set_cons_zero, List.set_cons_succ])
    refine linm_sole 8 (di := some 54) (fun u s => s = RK.p (some (u, l.eraseIdx i ++ [x])) (some g9)) (by kernel_rfl) rfl rfl rfl (rkMay_no (fun u s' hu => ⟨_, _, hu⟩)) (by kernel_rfl) (fun W hS => rk_append (ys := [x]) hS (.tmp 49) (.tmp 53) rfl rfl ⟨g9, 0, none⟩ 1 1 rfl rfl (by rw [cellsE_sing]; exact (hS.2.2 g9 rfl).2.2.1) (by have := HLE.out; omega)) ?_
    rintro v2 s' rfl
    (try simp only [Act.put, List.setIfInBounds_toArray, List.set_cons_zero, List.set_cons_succ])
    refine linm_step (i := 9) (d := some 55) (v := (.pointer (some ⟨b, 0, none⟩))) rfl rfl (by kernel_rfl) (by kernel_rfl) rfl rfl (ordm_value (by kernel_rfl) ?_) ?_
    · (intro _ w' _ _; go_simp)
    (try simp only [Act.put, List.setIfInBounds_toArray, List.set_cons_zero, List.set_cons_succ])
    refine linm_step (i := 10) (d := some 56) (v := .pointer (some ⟨b, 2, none⟩)) rfl rfl (by kernel_rfl) (by kernel_rfl) rfl rfl (ordm_value (by kernel_rfl) ?_) ?_
    · (intro _ w' _ _; go_simp)
    (try simp only [Act.put, List.setIfInBounds_toArray, List.set_cons_zero, List.set_cons_succ])
    refine linm_sole 11 (di := none) (fun _ s => s = RK.d v2) (by kernel_rfl) rfl rfl rfl (rkMay_last (by kernel_rfl)) (by kernel_rfl) (fun W hS => rk_store HM.out HBW.out hS rfl (.tmp 56) (.tmp 54) rfl rfl rfl) ?_
    rintro u s' rfl
    (try simp only [Act.put, List.setIfInBounds_toArray, List.set_cons_zero, List.set_cons_succ])
    refine linm_done (by kernel_rfl) ?_
    intro W hS
    have HF2 := Lib.hid (S1.out.way.trans (show MpTo 67 (.bool true) wx base b sv room (l.eraseIdx i ++ [x]) W v2 from hS))
    clear hS
    go_wp2
    refine bodyPost_ret (results_tmp rfl _ _ _) rfl ?_
    exact ⟨rfl, v2, HF2.out⟩
end Go.Proofs.Ytkomehplcacbcaa
