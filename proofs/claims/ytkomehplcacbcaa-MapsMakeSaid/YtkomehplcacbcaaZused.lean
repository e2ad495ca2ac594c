/-
  used: the entry that stands there becomes the last, where the order tells so.
-/
import Derived.Test.YtkomehplcacbcaaZapp
namespace Go.Proofs.Ytkomehplcacbcaa
open Go.RowKit Go.Maps

theorem used_hash (base b : Nat) (sv : Value) (room : Nat) (l : List Z.En) (i : Nat) (w : World) (h : MpAt 62 (kd false) w base b sv room l) :
    Calls Try.prog 25 #[.pointer (some ⟨b, 0, none⟩), .int .i64 (i : Int)] w fun e w' => e = .returned (.tuple #[]) ∧ Below w.heap.size w w' := by
  have hc0 : w.cell? ⟨b, 0, none⟩ = some (.int .i64 1) := h.row.cell 0 _ rfl
  clear h
  go_enter Try.func25, Try.ntmps25
  go_wp2
  refine bodyPost_ret (results_none rfl _ _ _) rfl ?_
  exact ⟨rfl, Below.refl _ _⟩
set_option maxRecDepth 100000 in
set_option maxHeartbeats 2000000 in
theorem used_lru (base b : Nat) (sv : Value) (room : Nat) (l : List Z.En) (i : Nat) (x : Z.En) (w : World) (h : MpAt 62 (kd true) w base b sv room l) (hx : l[i]? = some x) (hn : l.length ≤ 1000) (hbase : base ≤ w.heap.size) :
    Calls Try.prog 25 #[.pointer (some ⟨b, 0, none⟩), .int .i64 (i : Int)] w fun e w' => e = .returned (.tuple #[]) ∧ ∃ sv', MpTo 62 (kd true) w base b sv room (l.eraseIdx i ++ [x]) w' sv' := by
  have hc0 : w.cell? ⟨b, 0, none⟩ = some (.int .i64 2) := h.row.cell 0 _ rfl
  obtain ⟨g, cap, hsv, hnc, hcm, hbg, hgl, hrg⟩ := own_range h.own hx
  subst hsv
  have hi : i < l.length := (List.getElem?_eq_some_iff.1 hx).1
  have hi1 : (i : Int) < (l.length : Int) := by omega
  have hi0 : (0 : Int) ≤ (i : Int) := by omega
  have hc2 := h.row.cell 2 _ rfl
  have HC := Lib.hid hrg
  have H := Lib.hid h
  have HI := Lib.hid hi
  have HL := Lib.hid hn
  have HBS := Lib.hid hbase
  have HN : Hid ((l.eraseIdx i).length ≤ 1000) := Lib.hid (by rw [List.length_eraseIdx, if_pos hi]; omega)
  clear h hx hnc hcm hbg hrg hi hbase
  go_enter Try.func25, Try.ntmps25
  go_upto_region 2 with (first
    | ((with_reducible refine wpList_load_at enT HC.out (enL_length _) rfl (.tmp 15) rfl ?_ ?_); (exact rfl))
    | ((with_reducible refine wpList_store_newrow enT (vs := enL x) (enL_length _) (enL_one _) rfl (.tmp 4) (.tmp 16) rfl rfl ?_ ?_ ?_); (exact rfl); (exact rfl); intro W4 hP hb hz; have S : Hid (InS 62 (kd true) w base b (.slice (some ⟨g, 0, none⟩) l.length cap) room l w.heap.size (enL x) W4 (.slice (some ⟨g, 0, none⟩) l.length cap)) := Lib.hid ⟨MpTo.self H.out hb, hP, by rw [enL_length]; omega, fun hf => by (have := (H.out.foot hf).2; omega), Nat.le_refl _⟩; clear hP hb hz))
  clear hc0 hc2 HC
  go_upto_region 3 with (go_at_call 26; refine (rem_any (kd true) base b _ room l i W4 S.out.way.at_ HI.out HL.out).mono ?_; rintro e w5 ⟨rfl, sv2, hto⟩; replace S := Lib.hid (S.out.turn hto); clear hto)
  obtain ⟨wx, hwx⟩ : ∃ wx, wx = w5.drew := ⟨_, rfl⟩
  have S1 := Lib.hid (S.out.call (Below.refl _ _).drew)
  have HWX := Lib.hid hwx
  rw [← hwx] at S1
  have HM := Lib.hid S1.out.way.at_
  have HR := Lib.hid S1.out.row
  have HFAR := Lib.hid S1.out.far
  have HBW : Hid (base ≤ wx.heap.size) := Lib.hid (Nat.le_trans HBS.out S1.out.way.but.size)
  generalize w.heap.size = B at S1 HR HFAR ⊢
  clear hwx S
  refine wp_region_linm (ApS 62 (kd true) wx base b sv2 room (l.eraseIdx i) x) (apMay 4) (fun i => i == 6 || i == 7 || i == 10) (fun i => [(.pointer (some ⟨b, 0, none⟩)), (.pointer (some ⟨b, 0, none⟩)), (.pointer (some ⟨b, 0, none⟩)), .pointer (some ⟨b, 2, none⟩), sv2, .agg (enL x).toArray, undef, undef, .pointer (some ⟨b, 0, none⟩), .pointer (some ⟨b, 2, none⟩), undef].getD i undef) (PK.a) (by kernel_rfl) (by kernel_rfl) (HWX.out.symm) (fun _ => rfl) ?_
  refine linm_step (i := 0) (d := some 20) (v := (.pointer (some ⟨b, 0, none⟩))) rfl rfl (by kernel_rfl) (by kernel_rfl) rfl rfl (ordm_value (by kernel_rfl) ?_) ?_
  · (intro _ w' _ _; go_simp)
  (try simp only [Act.put, List.setIfInBounds_toArray, List.set_cons_zero, List.set_cons_succ])
  refine linm_step (i := 1) (d := some 21) (v := (.pointer (some ⟨b, 0, none⟩))) rfl rfl (by kernel_rfl) (by kernel_rfl) rfl rfl (ordm_value (by kernel_rfl) ?_) ?_
  · (intro _ w' _ _; go_simp)
  (try simp only [Act.put, List.setIfInBounds_toArray, List.set_cons_zero, List.set_cons_succ])
  refine linm_step (i := 2) (d := some 22) (v := (.pointer (some ⟨b, 0, none⟩))) rfl rfl (by kernel_rfl) (by kernel_rfl) rfl rfl (ordm_value (by kernel_rfl) ?_) ?_
  · (intro _ w' _ _; go_simp)
  (try simp only [Act.put, List.setIfInBounds_toArray, List.set_cons_zero, List.set_cons_succ])
  refine linm_step (i := 3) (d := some 23) (v := .pointer (some ⟨b, 2, none⟩)) rfl rfl (by kernel_rfl) (by kernel_rfl) rfl rfl (ordm_value (by kernel_rfl) ?_) ?_
  · (intro _ w' _ _; go_simp)
  (try simp only [Act.put, List.setIfInBounds_toArray, List.set_cons_zero, List.set_cons_succ])
  refine linm_step (i := 4) (d := some 24) (v := sv2) rfl rfl (by kernel_rfl) (by kernel_rfl) rfl rfl (ordm_value (by kernel_rfl) (fun s w' hm hS => ap_load (Or.inl rfl) HM.out hm hS (.tmp 23) rfl rfl)) ?_
  (try simp only [Act.put, List.setIfInBounds_toArray, List.set_cons_zero, List.set_cons_succ])
  refine linm_step (i := 5) (d := some 25) (v := .agg (enL x).toArray) rfl rfl (by kernel_rfl) (by kernel_rfl) rfl rfl (ordm_value (by kernel_rfl) (fun s w' hm hS => run_ld_row enT (ApS.other HM.out HR.out HFAR.out hS) (enL_length x) (.tmp 4) rfl rfl)) ?_
  (try simp only [Act.put, List.setIfInBounds_toArray, List.set_cons_zero, List.set_cons_succ])
  refine linm_turn (i := 6) (d := some 26) [7, 10] (fun u s => u = .slice (some ⟨wx.heap.size, 0, none⟩) 1 1 ∧ s = PK.b) rfl rfl (by kernel_rfl) (by kernel_rfl) rfl (by kernel_rfl) (apMay_no (fun u s' hu => Or.inl hu.2)) (⟨_, _, rfl, rfl⟩) (by kernel_rfl) (fun W hS => ap_build (Or.inl ⟨rfl, rfl⟩) hS (.tmp 25) rfl rfl) ?_
  rintro u s' ⟨rfl, rfl⟩
  (try simp only [Act.put, List.setIfInBounds_toArray, List.set_cons_zero, List.set_cons_succ])
  refine linm_turn (i := 7) (d := some 27) [10] (fun u s => s = PK.c u) rfl rfl (by kernel_rfl) (by kernel_rfl) rfl (by kernel_rfl) (apMay_no (fun u s' hu => Or.inr ⟨u, hu⟩)) (⟨undef, _, rfl⟩) (by kernel_rfl) (fun W hS => ap_append (Or.inl ⟨rfl, rfl⟩) HM.out HN.out HBW.out hS (.tmp 24) (.tmp 26) rfl rfl rfl) ?_
  rintro v s' rfl
  (try simp only [Act.put, List.setIfInBounds_toArray, List.set_cons_zero, List.set_cons_succ])
  refine linm_step (i := 8) (d := some 28) (v := .pointer (some ⟨b, 0, none⟩)) rfl rfl (by kernel_rfl) (by kernel_rfl) rfl rfl (ordm_value (by kernel_rfl) ?_) ?_
  · (intro _ w' _ _; go_simp)
  (try simp only [Act.put, List.setIfInBounds_toArray, List.set_cons_zero, List.set_cons_succ])
  refine linm_step (i := 9) (d := some 29) (v := .pointer (some ⟨b, 2, none⟩)) rfl rfl (by kernel_rfl) (by kernel_rfl) rfl rfl (ordm_value (by kernel_rfl) ?_) ?_
  · (intro _ w' _ _; go_simp)
  (try simp only [Act.put, List.setIfInBounds_toArray, List.set_cons_zero, List.set_cons_succ])
  refine linm_turn (i := 10) (d := none) [] (fun _ s => s = PK.d v) rfl rfl (by kernel_rfl) (by kernel_rfl) rfl (by kernel_rfl) (apMay_last (by kernel_rfl)) (⟨undef, _, rfl⟩) (by kernel_rfl) (fun W hS => ap_store (Or.inl rfl) HM.out hS (.tmp 29) (.tmp 27) rfl rfl rfl) ?_
  rintro u s' rfl
  (try simp only [Act.put, List.setIfInBounds_toArray, List.set_cons_zero, List.set_cons_succ])
  refine linm_done (by kernel_rfl) ?_
  intro W hS
  have HF := Lib.hid (S1.out.way.trans (show MpTo 62 (kd true) wx base b sv2 room (l.eraseIdx i ++ [x]) W v from hS))
  clear hS
  go_wp2
  go_end0
  exact ⟨rfl, v, HF.out⟩
end Go.Proofs.Ytkomehplcacbcaa
