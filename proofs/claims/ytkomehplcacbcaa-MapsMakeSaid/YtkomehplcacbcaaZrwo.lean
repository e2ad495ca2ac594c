/-
  The document's entries without one.
-/
import Derived.Test.YtkomehplcacbcaaZrat
import Derived.BigQuiet
namespace Go.Proofs.Ytkomehplcacbcaa
open Go.RowKit Go.Maps

theorem erase_app (l : List Z.En) (i : Nat) : l.take i ++ l.drop (i + 1) = l.eraseIdx i := (List.eraseIdx_eq_take_drop_succ l i).symm
theorem nil_app (l : List Z.En) : [] ++ l = l := rfl
set_option maxRecDepth 100000 in
set_option maxHeartbeats 2000000 in
theorem rwithout_any (hd : Value) (base b : Nat) (sv : Value) (room : Nat) (l : List Z.En) (i : Nat) (w : World) (h : MpAt 67 hd w base b sv room l) (hi : i < l.length) (hn : l.length ≤ 1000) :
    Calls Try.prog 28 #[.pointer (some ⟨b, 0, none⟩), .int .i64 (i : Int)] w fun e w' => ∃ v, e = .returned v ∧ w'.ownsRow w.heap.size 67 5 v (l.eraseIdx i).length (cellsE (l.eraseIdx i)) ∧ Below w.heap.size w w' := by
  obtain ⟨x, hx⟩ : ∃ x, l[i]? = some x := ⟨_, List.getElem?_eq_getElem hi⟩
  obtain ⟨g, cap, hsv, hnc, hcm, hbg, hgl, _⟩ := own_range h.own hx
  subst hsv
  obtain ⟨wx, hwx⟩ : ∃ wx, wx = w.drew := ⟨_, rfl⟩
  have hdr : Below wx.heap.size wx w.drew := by rw [hwx]; exact Below.refl _ _
  have hback : Below w.heap.size w wx := by rw [hwx]; exact (Below.refl _ _).drew
  have hsz : wx.heap.size = w.heap.size := by rw [hwx]; rfl
  have HM := Lib.hid (h.step hback)
  have hAo := cells_behind (HM.out.own) (i + 1) (by omega)
  obtain ⟨A, hA, hAg, hcb⟩ := hAo
  have HCA := Lib.hid (cells_ahead HM.out.own i (by omega))
  have HCB := Lib.hid hcb
  have HG : Hid (g < wx.heap.size) := Lib.hid (by omega)
  have HAG : Hid (A.block < wx.heap.size) := Lib.hid (by omega)
  have HI := Lib.hid hi
  have HL := Lib.hid hn
  have HT : Hid ((l.take i).length = i) := Lib.hid (by rw [List.length_take]; omega)
  have HD : Hid ((l.drop (i + 1)).length = l.length - (i + 1)) := Lib.hid (by rw [List.length_drop])
  have HBK := Lib.hid hback
  have HSZ := Lib.hid hsz
  have HDR := Lib.hid hdr
  have hi0 : (0 : Int) ≤ (i : Int) := by omega
  have hi1 : (i : Int) < (l.length : Int) := by omega
  have hic : i ≤ cap := by omega
  have hic1 : i + 1 ≤ cap := by omega
  have hin1 : i + 1 ≤ l.length := by omega
  have hw : IntKind.i64.wrap ((i : Int) + 1) = (i : Int) + 1 := by rw [IntKind.wrap_i64]; omega
  have hj0 : (0 : Int) ≤ (i : Int) + 1 := by omega
  have hj1 : (i : Int) + 1 ≤ (l.length : Int) := by omega
  have hcz : cap ≤ 9223372036854775807 := by unfold maxLen at hcm; omega
  clear h hx hnc hcm hbg hgl hwx hdr hback hsz hcb hAg hi hn
  go_enter Try.func28, Try.ntmps28
  go_upto_region 1 with fail
  refine wp_region_linm (RkS hd wx base b (.slice (some ⟨g, 0, none⟩) l.length cap) room l (l.eraseIdx i) ⟨0, 0, 0, 0, 0⟩) (rkMay [4, 11]) (fun i => i == 0 || i == 7 || i == 15 || i == 16) (fun qi => [undef, (.pointer (some ⟨b, 0, none⟩)), (.pointer (some ⟨b, 0, none⟩)), .pointer (some ⟨b, 2, none⟩), (.slice (some ⟨g, 0, none⟩) l.length cap), .int .i64 (i : Int), .slice (some ⟨g, 0, none⟩) i cap, undef, (.pointer (some ⟨b, 0, none⟩)), (.pointer (some ⟨b, 0, none⟩)), .pointer (some ⟨b, 2, none⟩), (.slice (some ⟨g, 0, none⟩) l.length cap), .int .i64 (i : Int), .int .i64 ((i : Int) + 1), .slice (some A) (l.length - (i + 1)) (cap - (i + 1)), undef, undef].getD qi undef) (RK.p none none) (by kernel_rfl) (by kernel_rfl) (⟨HDR.out, fun v xs h => (by cases h), fun g h => (by cases h)⟩) (fun _ => rfl) ?_
  refine linm_step (i := 1) (d := some 6) (v := (.pointer (some ⟨b, 0, none⟩))) rfl rfl (by kernel_rfl) (by kernel_rfl) rfl rfl (ordm_value (by kernel_rfl) ?_) ?_
  · (intro _ w' _ _; go_simp)
  (try simp only [Act.put, List.setIfInBounds_toArray, List.set_cons_zero, List.set_cons_succ])
  refine linm_step (i := 2) (d := some 7) (v := (.pointer (some ⟨b, 0, none⟩))) rfl rfl (by kernel_rfl) (by kernel_rfl) rfl rfl (ordm_value (by kernel_rfl) ?_) ?_
  · (intro _ w' _ _; go_simp)
  (try simp only [Act.put, List.setIfInBounds_toArray, List.set_cons_zero, List.set_cons_succ])
  refine linm_step (i := 3) (d := some 8) (v := .pointer (some ⟨b, 2, none⟩)) rfl rfl (by kernel_rfl) (by kernel_rfl) rfl rfl (ordm_value (by kernel_rfl) ?_) ?_
  · (intro _ w' _ _; go_simp)
  (try simp only [Act.put, List.setIfInBounds_toArray, List.set_cons_zero, List.set_cons_succ])
  refine linm_step (i := 4) (d := some 9) (v := .slice (some ⟨g, 0, none⟩) l.length cap) rfl rfl (by kernel_rfl) (by kernel_rfl) rfl rfl (ordm_value (by kernel_rfl) (fun s w' hm hS => rk_load HM.out (L := [4, 11]) (k := 4) (by simp) hm hS (.tmp 8) rfl rfl)) ?_
  (try simp only [Act.put, List.setIfInBounds_toArray, List.set_cons_zero, List.set_cons_succ])
  refine linm_step (i := 5) (d := some 10) (v := .int .i64 (i : Int)) rfl rfl (by kernel_rfl) (by kernel_rfl) rfl rfl (ordm_value (by kernel_rfl) ?_) ?_
  · (intro _ w' _ _; go_simp)
  (try simp only [Act.put, List.setIfInBounds_toArray, List.set_cons_zero, List.set_cons_succ])
  refine linm_step (i := 6) (d := some 11) (v := .slice (some ⟨g, 0, none⟩) i cap) rfl rfl (by kernel_rfl) (by kernel_rfl) rfl rfl (ordm_value (by kernel_rfl) ?_) ?_
  · (intro _ w' _ _; go_simp)
  (try simp only [Act.put, List.setIfInBounds_toArray, List.set_cons_zero, List.set_cons_succ])
  refine linm_step (i := 8) (d := some 13) (v := (.pointer (some ⟨b, 0, none⟩))) rfl rfl (by kernel_rfl) (by kernel_rfl) rfl rfl (ordm_value (by kernel_rfl) ?_) ?_
  · (intro _ w' _ _; go_simp)
  (try simp only [Act.put, List.setIfInBounds_toArray, List.set_cons_zero, List.set_cons_succ])
  refine linm_step (i := 9) (d := some 14) (v := (.pointer (some ⟨b, 0, none⟩))) rfl rfl (by kernel_rfl) (by kernel_rfl) rfl rfl (ordm_value (by kernel_rfl) ?_) ?_
  · (intro _ w' _ _; go_simp)
  (try simp only [Act.put, List.setIfInBounds_toArray, List.set_cons_zero, List.set_cons_succ])
  refine linm_step (i := 10) (d := some 15) (v := .pointer (some ⟨b, 2, none⟩)) rfl rfl (by kernel_rfl) (by kernel_rfl) rfl rfl (ordm_value (by kernel_rfl) ?_) ?_
  · (intro _ w' _ _; go_simp)
  (try simp only [Act.put, List.setIfInBounds_toArray, List.set_cons_zero, List.set_cons_succ])
  refine linm_step (i := 11) (d := some 16) (v := .slice (some ⟨g, 0, none⟩) l.length cap) rfl rfl (by kernel_rfl) (by kernel_rfl) rfl rfl (ordm_value (by kernel_rfl) (fun s w' hm hS => rk_load HM.out (L := [4, 11]) (k := 11) (by simp) hm hS (.tmp 15) rfl rfl)) ?_
  (try simp only [Act.put, List.setIfInBounds_toArray, List.set_cons_zero, List.set_cons_succ])
  refine linm_step (i := 12) (d := some 17) (v := .int .i64 (i : Int)) rfl rfl (by kernel_rfl) (by kernel_rfl) rfl rfl (ordm_value (by kernel_rfl) ?_) ?_
  · (intro _ w' _ _; go_simp)
  (try simp only [Act.put, List.setIfInBounds_toArray, List.set_cons_zero, List.set_cons_succ])
  refine linm_step (i := 13) (d := some 18) (v := .int .i64 ((i : Int) + 1)) rfl rfl (by kernel_rfl) (by kernel_rfl) rfl rfl (ordm_value (by kernel_rfl) ?_) ?_
  · (intro _ w' _ _; go_simp)
  (try simp only [Act.put, List.setIfInBounds_toArray, List.set_cons_zero, List.set_cons_succ])
  refine linm_step (i := 14) (d := some 19) (v := .slice (some A) (l.length - (i + 1)) (cap - (i + 1))) rfl rfl (by kernel_rfl) (by kernel_rfl) rfl rfl (ordm_value (by kernel_rfl) ?_) ?_
  · (intro _ w' _ _; go_simp)
  (try simp only [Act.put, List.setIfInBounds_toArray, List.set_cons_zero, List.set_cons_succ])
  refine linm_sole 0 (di := some 5) (fun u s => s = RK.p (some (u, [])) none) (by kernel_rfl) rfl rfl rfl (rkMay_no (fun u s' hu => ⟨_, _, hu⟩)) (by kernel_rfl) (fun W hS => rk_empty hS (by go_simp)) ?_
  rintro v1 s' rfl
  (try simp only [Act.put, List.setIfInBounds_toArray, List.set_cons_zero, List.set_cons_succ])
  refine linm_sole 7 (di := some 12) (fun u s => s = RK.p (some (u, [] ++ l.take i)) none) (by kernel_rfl) rfl rfl rfl (rkMay_no (fun u s' hu => ⟨_, _, hu⟩)) (by kernel_rfl) (fun W hS => rk_append (ys := l.take i) hS (.tmp 5) (.tmp 11) rfl rfl ⟨g, 0, none⟩ i cap rfl HT.out (cells_step HCA.out hS.1 HG.out) (by have := HI.out; have := HL.out; simp; omega)) ?_
  rintro v2 s' rfl
  (try simp only [Act.put, List.setIfInBounds_toArray, List.set_cons_zero, List.set_cons_succ])
  refine linm_sole 15 (di := some 20) (fun u s => s = RK.p (some (u, [] ++ l.take i ++ l.drop (i + 1))) none) (by kernel_rfl) rfl rfl rfl (rkMay_no (fun u s' hu => ⟨_, _, hu⟩)) (by kernel_rfl) (fun W hS => rk_append (ys := l.drop (i + 1)) hS (.tmp 12) (.tmp 19) rfl rfl A (l.length - (i + 1)) (cap - (i + 1)) rfl HD.out (cells_step HCB.out hS.1 HAG.out) (by have := HI.out; have := HL.out; simp; omega)) ?_
  rintro v3 s' rfl
  (try simp only [Act.put, List.setIfInBounds_toArray, List.set_cons_zero, List.set_cons_succ])
  refine linm_sole 16 (di := some 4) (fun u s => u = v3 ∧ s = RK.p (some (v3, [] ++ l.take i ++ l.drop (i + 1))) none) (by kernel_rfl) rfl rfl rfl (rkMay_no (fun u s' hu => ⟨_, _, hu.2⟩)) (by kernel_rfl) (fun W hS => gives_value (v := v3) (by go_simp) ⟨_, ⟨rfl, rfl⟩, hS⟩) ?_
  rintro u s' ⟨rfl, rfl⟩
  (try simp only [Act.put, List.setIfInBounds_toArray, List.set_cons_zero, List.set_cons_succ])
  refine linm_done (by kernel_rfl) ?_
  intro W hS
  have S := Lib.hid hS
  clear hS
  go_wp2
  go_ret
  obtain ⟨h1, h2, _⟩ := S.out
  have h3 := h2 _ _ rfl
  rw [List.nil_append, erase_app, HSZ.out] at h3
  exact ⟨u, rfl, h3, HBK.out.trans (h1.mono HBK.out.size)⟩
end Go.Proofs.Ytkomehplcacbcaa
