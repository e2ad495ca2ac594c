/-
  The walk of MapsMake: specs that can be.
-/
import Derived.Test.YtkomehplcacbcaaZmk2
import Derived.BigQuiet
namespace Go.Proofs.Ytkomehplcacbcaa
open Go.ChangeShapes Go.WideShapes Go.ChangeAt Go.RowKit Go.Maps

set_option maxRecDepth 100000 in
set_option maxHeartbeats 8000000 in
theorem mk_good (A : Option Addr) (n c : Nat) (xs : List (Int × Int)) (KA : Option Addr) (m kc : Nat) (ks : List Int) (w : World) (h : SpecsAt w A n xs) (hk : IntsAt w KA m ks) (hn1 : 1 ≤ n) (hn : n ≤ 4) (hm : m ≤ 40) (hgood : xs.all goodSp = true) : Calls Try.prog 3 #[.slice A n c, .slice KA m kc] w fun e w' => e = .returned (.bool true) ∧ Below w.heap.size w w' := by
  have H0 := Lib.hid h
  have HK0 := Lib.hid hk
  have HL := Lib.hid h.len
  have HG := Lib.hid hgood
  have h1i : ¬ ((20 : Int) < (n : Int)) := by omega
  have h1d : decide ((20 : Int) < (n : Int)) = false := decide_eq_false h1i
  have h2i : ¬ ((40 : Int) < (m : Int)) := by omega
  have h4i : (n : Int) ≤ 4 := by omega
  have h4d : decide ((n : Int) ≤ 4) = true := decide_eq_true h4i
  have HMK := Lib.hid (fun w h => make_any A n c w.heap.size xs w h rfl)
  have HNW := Lib.hid (fun x w h => rnew_spec x w h)
  obtain ⟨i0, hi0, hz0, hs0, hb0⟩ := info_parts info_r
  have HI0 := Lib.hid hi0
  have HZ0 := Lib.hid hz0
  have HS0 := Lib.hid hs0
  have HB0 := Lib.hid hb0
  clear h hk hgood hi0 hz0 hs0 hb0
  go_enter Try.func3, Try.ntmps3
  go_upto_region 7 with (first
    | (go_at_call 6; refine (awake_any _).mono ?_; rintro e w1 ⟨rfl, hb⟩; have B := Lib.hid hb; clear hb)
    | (go_at_call 7; refine (HMK.out _ (H0.out.step B.out)).mono ?_; intro e w2 hg; unfold MakeGive at hg; rw [if_pos ⟨hn, HG.out⟩] at hg; obtain ⟨v, bs, ms, rfl, hmk⟩ := hg; obtain ⟨A0, c0, rfl⟩ := owns_slice hmk.own; have S0 := Lib.hid (DmS.start hmk B.out rfl); clear hmk B; generalize w1.heap.size = base at S0 ⊢))
  go_wp2_with fail
  go_loopw [7, 9, 38] (fun o _ i wr => ∃ k : Nat, k ≤ n ∧ i = .int .i64 (k : Int) ∧ o = .bool true ∧ Hid (DmS w base n xs (.slice A0 n c0) bs ms 0 (.slice none 0 0) [] [] wr)) (fun _ _ i _ => n - (intOf i).toNat)
  case atStart => exact ⟨0, Nat.zero_le _, rfl, rfl, S0⟩
  case round =>
    clear S0
    obtain ⟨k, hkn, rfl, rfl, S⟩ := hrel
    by_cases hlt : k < n
    · rename World => wo
      obtain ⟨b, off, x, hA, hb, hx, hc⟩ := (H0.out.step (S.out.bel)).get k hlt
      subst hA
      have HC := Lib.hid hc
      have HGX := Lib.hid (List.all_eq_true.1 HG.out x (List.mem_of_getElem? hx))
      have hk0 : (0 : Int) ≤ (k : Int) := by omega
      have hk1 : (k : Int) < (n : Int) := by omega
      clear hx hc hb
      go_wp2_with (first
        | ((with_reducible refine wpList_load_at spT HC.out rfl rfl (.tmp 40) rfl ?_ ?_); (exact rfl))
        | ((with_reducible refine wpList_store_newrow spT (vs := spL x) rfl (spL_one _) rfl (.tmp 9) (.tmp 41) rfl rfl ?_ ?_ ?_); (exact rfl); (exact rfl); intro W4 hP hb hz; have hkc := hP.cell 0 _ rfl; have hrc := hP.cell 1 _ rfl; replace S := Lib.hid (S.out.call hb); clear hP hb hz; generalize wo.heap.size = G at hkc hrc ⊢)
        | (go_at_call 8; refine (HNW.out x W4 HGX.out).mono ?_; rintro e w5 ⟨rfl, _, hb⟩; replace S := Lib.hid (S.out.call hb); clear hb))
      go_roundw
      case rel => exact ⟨k + 1, by omega, by go_num, rfl, S⟩
      case measure => (simp [intOf] <;> omega)
    · obtain rfl : k = n := by omega
      clear hlt
      go_upto_region 17 with (first
        | (go_at_call 9; (with_reducible refine (at_out A0 k c0 (-1) _ (Or.inl (by decide))).mono ?_); rintro e w5 ⟨rfl, rfl⟩)
        | (go_at_call 9; (with_reducible refine (at_out A0 k c0 (k : Int) _ (Or.inr (Int.le_refl _))).mono ?_); rintro e w5 ⟨rfl, rfl⟩))
      go_wp2_with fail
      go_loopw [10, 12, 84] (fun l _ i wr => ∃ (j : Nat) (A1 : Option Addr) (c1 : Nat) (cs : List Nat) (rs : List Mp), j ≤ k ∧ i = .int .i64 (j : Int) ∧ l = .slice A1 j c1 ∧ Hid (DmS w base k xs (.slice A0 k c0) bs ms j (.slice A1 j c1) cs rs wr)) (fun _ _ i _ => k - (intOf i).toNat)
      case atStart => exact ⟨0, none, 0, [], [], Nat.zero_le _, rfl, rfl, S⟩
      case round =>
        clear S
        obtain ⟨j, A1, c1, cs, rs, hjk, rfl, rfl, S⟩ := hrel
        by_cases hlt : j < k
        · rename World => wo
          obtain ⟨b, off, x, hA, hb, hx, hc⟩ := (H0.out.step (S.out.bel)).get j hlt
          subst hA
          have HC := Lib.hid hc
          have HX := Lib.hid hx
          have HGX := Lib.hid (List.all_eq_true.1 HG.out x (List.mem_of_getElem? hx))
          have hk0 : (0 : Int) ≤ (j : Int) := by omega
          have hk1 : (j : Int) < (k : Int) := by omega
          clear hx hc hb
          go_wp2_with (first
            | ((with_reducible refine wpList_load_at spT HC.out rfl rfl (.tmp 86) rfl ?_ ?_); (exact rfl))
            | ((with_reducible refine wpList_store_newrow spT (vs := spL x) rfl (spL_one _) rfl (.tmp 12) (.tmp 87) rfl rfl ?_ ?_ ?_); (exact rfl); (exact rfl); intro W4 hP hb hz; have hkc := hP.cell 0 _ rfl; have hrc := hP.cell 1 _ rfl; replace S := Lib.hid (S.out.call hb); clear hP hb hz; generalize wo.heap.size = G at hkc hrc ⊢)
            | (go_at_call 8; refine (HNW.out x W4 HGX.out).mono ?_; intro e w5 hm5; have S5 := Lib.hid (S.out.add hm5); obtain ⟨rfl, _, _⟩ := hm5; clear hkc hrc S; generalize W4.heap.size = B5 at S5 ⊢; have HNw := Lib.hid (cell_one_new w5 (.pointer (some ⟨B5, 0, none⟩)) 32); have S6 := Lib.hid (S5.out.call ((Below.refl _ _).alloc (Nat.le_refl _) (.cells #[.pointer (some ⟨B5, 0, none⟩)] 32))))
            | (at_builtin; go_must (refine wpList_append_own_at _ rfl (.tmp 88) (.tmp 94) 36 rfl base 32 i0 _ 1 8 Try.underlying36 HI0.out HZ0.out HS0.out HB0.out rfl (by omega) _ j _ rfl S6.out.rt ⟨w5.heap.size, 0, none⟩ 1 1 [.pointer (some ⟨B5, 0, none⟩)] rfl rfl HNw.out (by intro u hu; simp at hu; subst hu; rfl) (by unfold maxLen; omega) (by omega) S6.out.hi ?_); intro v' w7 hown' hgrow hnil hloc; obtain ⟨A1, c1, rfl⟩ := owns_slice hown'))
          have S7 := Lib.hid (S6.out.done HX.out hgrow hloc hown')
          clear hown' hgrow hnil hloc S5 S6
          go_roundw
          case rel => exact ⟨j + 1, A1, c1, _, _, by omega, by go_num, rfl, S7⟩
          case measure => (simp [intOf] <;> omega)
        · obtain rfl : j = k := by omega
          clear hlt
          have I0 := Lib.hid (S.out.inv HL.out)
          have HD0 : Hid ((dts xs).length = j ∧ ∀ d ∈ dts xs, d.ok) := Lib.hid ⟨by unfold dts; rw [List.length_map, HL.out], dts_ok HG.out⟩
          obtain ⟨gv, cv, ev, _, _⟩ := inv_ptr I0.out (i := 0) (by omega)
          injection ev with ev _ ev2
          subst ev ev2
          obtain ⟨gu, cu, eu, hcu, _⟩ := inv_rptr I0.out (i := 0) (by omega)
          injection eu with eu _ eu2
          subst eu eu2
          generalize dts xs = ds0 at I0 HD0
          clear S
          go_wp2_with fail
          go_loopw [13, 14, 15, 99] (fun _ _ _ i wr => ∃ (q : Nat) (ds : List Dt), q ≤ m ∧ i = .int .i64 (q : Int) ∧ Hid (ds.length = j ∧ ∀ d ∈ ds, d.ok) ∧ Hid (Inv w base j (.slice (some ⟨gv, 0, none⟩) j c0) (.slice (some ⟨gu, 0, none⟩) j c1) bs cs ds ds wr)) (fun _ _ _ i _ => m - (intOf i).toNat)
          case atStart => exact ⟨0, ds0, Nat.zero_le _, rfl, HD0, I0⟩
          case round =>
            clear I0 HD0
            obtain ⟨q, ds, hqm, rfl, HD, I⟩ := hrel
            by_cases hlt : q < m
            · rename World => wo
              have hbl : Below w.heap.size w wo := by obtain ⟨_, h1, _⟩ := I.out; exact h1.bel
              obtain ⟨b, off, key, hA, hb, hx, hc⟩ := (HK0.out.step hbl).get q hlt
              subst hA
              obtain ⟨r, hr⟩ : ∃ r, r = q % j := ⟨_, rfl⟩
              have hrj : r < j := by rw [hr]; exact Nat.mod_lt _ (by omega)
              have hmod : ((q : Int) % (j : Int)) = (r : Int) := by rw [hr]; omega
              have hmod' : ((q : Int).tmod (j : Int)) = (r : Int) := by rw [Int.tmod_eq_emod_of_nonneg (by omega)]; exact hmod
              have hj0 : ¬ ((j : Int) = 0) := by omega
              have hj0b : ((j : Int) == 0) = false := by simpa using hj0
              have hr0 : (0 : Int) ≤ (r : Int) := by omega
              have hr1 : (r : Int) < (j : Int) := by omega
              obtain ⟨g, cc, e1, _, hcp⟩ := inv_ptr I.out hrj
              injection e1 with e1 _ e3
              injection e1 with e1
              injection e1 with e1
              subst e1 e3
              have hd : ds[r]? = some (ds[r]'(by rw [HD.out.1]; exact hrj)) := List.getElem?_eq_getElem _
              generalize ds[r]'(by rw [HD.out.1]; exact hrj) = d at hd
              have HDD := Lib.hid hd
              have HOK := Lib.hid (HD.out.2 d (List.mem_of_getElem? hd))
              obtain ⟨pb, hpb⟩ : ∃ pb, pb = bs.getD r 0 := ⟨_, rfl⟩
              obtain ⟨cb, hcb⟩ : ∃ cb, cb = cs.getD r 0 := ⟨_, rfl⟩
              rw [← hpb] at hcp
              have HPB := Lib.hid hpb
              have HCB := Lib.hid hcb
              have HRJ := Lib.hid hrj
              have HD2 : Hid ((ds.set r (d.put ⟨key, (q : Int), 0, 0, 0⟩)).length = j ∧ ∀ e ∈ ds.set r (d.put ⟨key, (q : Int), 0, 0, 0⟩), e.ok) := Lib.hid ⟨by rw [List.length_set]; exact HD.out.1, fun e he => by
                rcases List.mem_or_eq_of_mem_set he with h1 | h1
                · exact HD.out.2 e h1
                · rw [h1]; exact Dt.ok_put HOK.out _⟩
              have HCP := Lib.hid hcp
              have hq0 : (0 : Int) ≤ (q : Int) := by omega
              have hq1 : (q : Int) < (m : Int) := by omega
              have hqm2 : q + 1 ≤ m := by omega
              clear hb hx hr hd hpb hcb hbl hcp hrj
              go_upto_region 27 with (go_at_call 9; refine (at_in gv j c0 r pb wo HRJ.out HCP.out).mono ?_; rintro e w5 ⟨rfl, rfl⟩)
              have I1 : Hid (QkS w base j (.slice (some ⟨gv, 0, none⟩) j c0) (.slice (some ⟨gu, 0, none⟩) j c1) bs cs ds (ds.set r (d.put ⟨key, (q : Int), 0, 0, 0⟩)) .a wo.drew) := Lib.hid (Inv.call I.out (Below.refl _ _).drew)
              clear hc
              refine wp_region_linm (QkS w base j (.slice (some ⟨gv, 0, none⟩) j c0) (.slice (some ⟨gu, 0, none⟩) j c1) bs cs ds (ds.set r (d.put ⟨key, (q : Int), 0, 0, 0⟩))) (fun _ _ => true) (fun i => i == 7 || i == 18) (fun qi => [(.pointer (some ⟨pb, 0, none⟩)), .bool false, .bool false, (.pointer (some ⟨pb, 0, none⟩)), .int .i64 key, .int .i64 (q : Int), .agg #[.int .i64 (q : Int), .int .i64 0, .int .i64 0, .int .i64 0], undef, .slice (some ⟨gu, 0, none⟩) j c1, .int .i64 (q : Int), .slice A j c, .int .i64 (j : Int), .int .i64 (r : Int), .pointer (some ⟨gu, r, none⟩), .pointer (some ⟨cb, 0, none⟩), .int .i64 key, .int .i64 (q : Int), .agg #[.int .i64 (q : Int), .int .i64 0, .int .i64 0, .int .i64 0], undef, .bool false, .bool false].getD qi undef) (QK.a) (by kernel_rfl) (by kernel_rfl) (I1.out) (fun _ => rfl) ?_
              refine linm_step (i := 0) (d := some 113) (v := (.pointer (some ⟨pb, 0, none⟩))) rfl rfl (by kernel_rfl) (by kernel_rfl) rfl rfl (ordm_value (by kernel_rfl) ?_) ?_
              · (intro _ w' _ _; go_simp)
              (try simp only [Act.put, List.setIfInBounds_toArray, List.set_cons_zero, List.set_cons_succ])
              refine linm_step (i := 1) (d := some 114) (v := .bool false) rfl rfl (by kernel_rfl) (by kernel_rfl) rfl rfl (ordm_value (by kernel_rfl) ?_) ?_
              · (intro _ w' _ _; go_simp)
              (try simp only [Act.put, List.setIfInBounds_toArray, List.set_cons_zero, List.set_cons_succ])
              refine linm_step (i := 2) (d := some 115) (v := .bool false) rfl rfl (by kernel_rfl) (by kernel_rfl) rfl rfl (ordm_value (by kernel_rfl) ?_) ?_
              · (intro _ w' _ _; go_simp)
              (try simp only [Act.put, List.setIfInBounds_toArray, List.set_cons_zero, List.set_cons_succ])
              refine linm_step (i := 3) (d := some 116) (v := (.pointer (some ⟨pb, 0, none⟩))) rfl rfl (by kernel_rfl) (by kernel_rfl) rfl rfl (ordm_value (by kernel_rfl) ?_) ?_
              · (intro _ w' _ _; go_simp)
              (try simp only [Act.put, List.setIfInBounds_toArray, List.set_cons_zero, List.set_cons_succ])
              refine linm_step (i := 4) (d := some 117) (v := .int .i64 key) rfl rfl (by kernel_rfl) (by kernel_rfl) rfl rfl (ordm_value (by kernel_rfl) ?_) ?_
              · (intro _ w' _ _; go_simp)
              (try simp only [Act.put, List.setIfInBounds_toArray, List.set_cons_zero, List.set_cons_succ])
              refine linm_step (i := 5) (d := some 118) (v := .int .i64 (q : Int)) rfl rfl (by kernel_rfl) (by kernel_rfl) rfl rfl (ordm_value (by kernel_rfl) ?_) ?_
              · (intro _ w' _ _; go_simp)
              (try simp only [Act.put, List.setIfInBounds_toArray, List.set_cons_zero, List.set_cons_succ])
              refine linm_step (i := 6) (d := some 119) (v := .agg #[.int .i64 (q : Int), .int .i64 0, .int .i64 0, .int .i64 0]) rfl rfl (by kernel_rfl) (by kernel_rfl) rfl rfl (ordm_value (by kernel_rfl) ?_) ?_
              · (intro _ w' _ _; go_simp)
              (try simp only [Act.put, List.setIfInBounds_toArray, List.set_cons_zero, List.set_cons_succ])
              refine linm_step (i := 8) (d := some 121) (v := .slice (some ⟨gu, 0, none⟩) j c1) rfl rfl (by kernel_rfl) (by kernel_rfl) rfl rfl (ordm_value (by kernel_rfl) ?_) ?_
              · (intro _ w' _ _; go_simp)
              (try simp only [Act.put, List.setIfInBounds_toArray, List.set_cons_zero, List.set_cons_succ])
              refine linm_step (i := 9) (d := some 122) (v := .int .i64 (q : Int)) rfl rfl (by kernel_rfl) (by kernel_rfl) rfl rfl (ordm_value (by kernel_rfl) ?_) ?_
              · (intro _ w' _ _; go_simp)
              (try simp only [Act.put, List.setIfInBounds_toArray, List.set_cons_zero, List.set_cons_succ])
              refine linm_step (i := 10) (d := some 123) (v := .slice A j c) rfl rfl (by kernel_rfl) (by kernel_rfl) rfl rfl (ordm_value (by kernel_rfl) ?_) ?_
              · (intro _ w' _ _; go_simp)
              (try simp only [Act.put, List.setIfInBounds_toArray, List.set_cons_zero, List.set_cons_succ])
              refine linm_step (i := 11) (d := some 124) (v := .int .i64 (j : Int)) rfl rfl (by kernel_rfl) (by kernel_rfl) rfl rfl (ordm_value (by kernel_rfl) ?_) ?_
              · (intro _ w' _ _; go_simp)
              (try simp only [Act.put, List.setIfInBounds_toArray, List.set_cons_zero, List.set_cons_succ])
              refine linm_step (i := 12) (d := some 125) (v := .int .i64 (r : Int)) rfl rfl (by kernel_rfl) (by kernel_rfl) rfl rfl (ordm_value (by kernel_rfl) ?_) ?_
              · (intro _ w' _ _; go_simp; omega)
              (try simp only [Act.put, List.setIfInBounds_toArray, List.set_cons_zero, List.set_cons_succ])
              refine linm_step (i := 13) (d := some 126) (v := .pointer (some ⟨gu, r, none⟩)) rfl rfl (by kernel_rfl) (by kernel_rfl) rfl rfl (ordm_value (by kernel_rfl) ?_) ?_
              · (intro _ w' _ _; go_simp)
              (try simp only [Act.put, List.setIfInBounds_toArray, List.set_cons_zero, List.set_cons_succ])
              refine linm_step (i := 14) (d := some 127) (v := .pointer (some ⟨cb, 0, none⟩)) rfl rfl (by kernel_rfl) (by kernel_rfl) rfl rfl (ordm_value (by kernel_rfl) (by intro s w' _ hS; have hcc := QkS.rptr hS HRJ.out HCB.out; go_simp)) ?_
              (try simp only [Act.put, List.setIfInBounds_toArray, List.set_cons_zero, List.set_cons_succ])
              refine linm_step (i := 15) (d := some 128) (v := .int .i64 key) rfl rfl (by kernel_rfl) (by kernel_rfl) rfl rfl (ordm_value (by kernel_rfl) ?_) ?_
              · (intro _ w' _ _; go_simp)
              (try simp only [Act.put, List.setIfInBounds_toArray, List.set_cons_zero, List.set_cons_succ])
              refine linm_step (i := 16) (d := some 129) (v := .int .i64 (q : Int)) rfl rfl (by kernel_rfl) (by kernel_rfl) rfl rfl (ordm_value (by kernel_rfl) ?_) ?_
              · (intro _ w' _ _; go_simp)
              (try simp only [Act.put, List.setIfInBounds_toArray, List.set_cons_zero, List.set_cons_succ])
              refine linm_step (i := 17) (d := some 130) (v := .agg #[.int .i64 (q : Int), .int .i64 0, .int .i64 0, .int .i64 0]) rfl rfl (by kernel_rfl) (by kernel_rfl) rfl rfl (ordm_value (by kernel_rfl) ?_) ?_
              · (intro _ w' _ _; go_simp)
              (try simp only [Act.put, List.setIfInBounds_toArray, List.set_cons_zero, List.set_cons_succ])
              refine linm_turn (i := 7) (d := some 120) [18] (fun u s => u = .int .i64 (d.code ⟨key, (q : Int), 0, 0, 0⟩) ∧ s = QK.b) rfl rfl (by kernel_rfl) (by kernel_rfl) rfl (by kernel_rfl) (lost_no (fun _ _ _ _ => rfl)) (⟨_, _, rfl, rfl⟩) (by kernel_rfl) (fun W hS => qk_put (x := ⟨key, (q : Int), 0, 0, 0⟩) HDD.out HOK.out HPB.out hS (by go_simp <;> rfl)) ?_
              rintro u s' ⟨rfl, rfl⟩
              (try simp only [Act.put, List.setIfInBounds_toArray, List.set_cons_zero, List.set_cons_succ])
              refine linm_turn (i := 18) (d := some 131) [] (fun u s => u = .int .i64 (d.code ⟨key, (q : Int), 0, 0, 0⟩) ∧ s = QK.c) rfl rfl (by kernel_rfl) (by kernel_rfl) rfl (by kernel_rfl) (lost_no (fun _ _ _ _ => rfl)) (⟨_, _, rfl, rfl⟩) (by kernel_rfl) (fun W hS => qk_rput (x := ⟨key, (q : Int), 0, 0, 0⟩) HDD.out HOK.out HCB.out hS (by go_simp <;> rfl)) ?_
              rintro u s' ⟨rfl, rfl⟩
              (try simp only [Act.put, List.setIfInBounds_toArray, List.set_cons_zero, List.set_cons_succ])
              refine linm_step (i := 19) (d := some 132) (v := .bool false) rfl rfl (by kernel_rfl) (by kernel_rfl) rfl rfl (ordm_value (by kernel_rfl) ?_) ?_
              · (intro _ w' _ _; go_simp)
              (try simp only [Act.put, List.setIfInBounds_toArray, List.set_cons_zero, List.set_cons_succ])
              refine linm_step (i := 20) (d := some 133) (v := .bool false) rfl rfl (by kernel_rfl) (by kernel_rfl) rfl rfl (ordm_value (by kernel_rfl) ?_) ?_
              · (intro _ w' _ _; go_simp)
              (try simp only [Act.put, List.setIfInBounds_toArray, List.set_cons_zero, List.set_cons_succ])
              refine linm_done (by kernel_rfl) ?_
              intro W hS
              have I2 : Hid (Inv w base j (.slice (some ⟨gv, 0, none⟩) j c0) (.slice (some ⟨gu, 0, none⟩) j c1) bs cs (ds.set r (d.put ⟨key, (q : Int), 0, 0, 0⟩)) (ds.set r (d.put ⟨key, (q : Int), 0, 0, 0⟩)) W) := Lib.hid hS
              clear hS I1
              go_wp2
              go_roundw
              case rel => exact ⟨q + 1, _, hqm2, by go_num, HD2, I2⟩
              case measure => (simp [intOf] <;> omega)
            · obtain rfl : q = m := by omega
              clear hlt
              obtain ⟨msF, hIM, hDat⟩ := I.out
              have M0 := Lib.hid hIM
              have HDat := Lib.hid hDat
              have HSL := Lib.hid (sumK_le HD.out.2)
              clear hIM hDat I
              go_wp2_with fail
              go_loopw [16, 17, 137] (fun s _ i wr => ∃ t : Nat, t ≤ j ∧ i = .int .i64 (t : Int) ∧ s = .int .i64 (sumK ds t : Int) ∧ Hid (InvM w base j (.slice (some ⟨gv, 0, none⟩) j c0) (.slice (some ⟨gu, 0, none⟩) j c1) bs cs msF wr)) (fun _ _ i _ => j - (intOf i).toNat)
              case atStart => exact ⟨0, Nat.zero_le _, rfl, rfl, M0⟩
              case round =>
                clear M0
                obtain ⟨t, htj, rfl, rfl, M⟩ := hrel
                by_cases hlt : t < j
                · rename World => wo
                  have hd : ds[t]? = some (ds[t]'(by rw [HD.out.1]; exact hlt)) := List.getElem?_eq_getElem _
                  generalize ds[t]'(by rw [HD.out.1]; exact hlt) = d at hd
                  have HDD := Lib.hid hd
                  have HOK := Lib.hid (HD.out.2 d (List.mem_of_getElem? hd))
                  have HSS := Lib.hid (sumK_succ hd)
                  obtain ⟨g, cc, e1, _, hcp⟩ := inv_ptr ⟨msF, M.out, HDat.out⟩ hlt
                  injection e1 with e1 _ e3
                  injection e1 with e1
                  injection e1 with e1
                  subst e1 e3
                  obtain ⟨pb, hpb⟩ : ∃ pb, pb = bs.getD t 0 := ⟨_, rfl⟩
                  obtain ⟨cb, hcb⟩ : ∃ cb, cb = cs.getD t 0 := ⟨_, rfl⟩
                  have HPB := Lib.hid hpb
                  have HCB := Lib.hid hcb
                  obtain ⟨rv, hrv⟩ := HDat.out.r t d hd
                  have HRV := Lib.hid hrv
                  have HOwn := Lib.hid (fun W (hW : InvM w base j (.slice (some ⟨gv, 0, none⟩) j c0) (.slice (some ⟨gu, 0, none⟩) j c1) bs cs msF W) => MpAt.own (hW.all.each _ _ hrv))
                  obtain ⟨A2, c2, hrvs⟩ := owns_slice (HOwn.out _ M.out)
                  have hrvs' : rv = .slice A2 d.l.length c2 := hrvs
                  subst hrvs'
                  have HPC : Hid (∀ W, InvM w base j (.slice (some ⟨gv, 0, none⟩) j c0) (.slice (some ⟨gu, 0, none⟩) j c1) bs cs msF W → W.cell? ⟨gv, t, none⟩ = some (.pointer (some ⟨pb, 0, none⟩))) := Lib.hid (fun W hW => by
                    obtain ⟨g, cc, e1, _, hcp⟩ := inv_ptr ⟨msF, hW, HDat.out⟩ hlt
                    injection e1 with e1 _ e3
                    injection e1 with e1
                    injection e1 with e1
                    rw [e1, HPB.out]; exact hcp)
                  have HUC : Hid (∀ W, InvM w base j (.slice (some ⟨gv, 0, none⟩) j c0) (.slice (some ⟨gu, 0, none⟩) j c1) bs cs msF W → W.cell? ⟨gu, t, none⟩ = some (.pointer (some ⟨cb, 0, none⟩))) := Lib.hid (fun W hW => by
                    obtain ⟨g, cc, e1, _, hcp⟩ := inv_rptr ⟨msF, hW, HDat.out⟩ hlt
                    injection e1 with e1 _ e3
                    injection e1 with e1
                    injection e1 with e1
                    rw [e1, HCB.out]; exact hcp)
                  have HRC : Hid (∀ W, InvM w base j (.slice (some ⟨gv, 0, none⟩) j c0) (.slice (some ⟨gu, 0, none⟩) j c1) bs cs msF W → W.cell? ⟨cb, 2, none⟩ = some (.slice A2 d.l.length c2)) := Lib.hid (fun W hW => hW.rcell HDat.out HDD.out HCB.out HRV.out)
                  have hu1 := HUC.out _ M.out
                  have hu2 := HRC.out _ M.out
                  have h8 := HOK.out
                  have hb1 := HSL.out t
                  have hw : IntKind.i64.wrap ((sumK ds t : Int) + (d.l.length : Int)) = ((sumK ds (t + 1) : Nat) : Int) := by rw [HSS.out, IntKind.wrap_i64]; have := h8.1; have := h8.2.2; omega
                  have ht0 : (0 : Int) ≤ (t : Int) := by omega
                  have ht1 : (t : Int) < (j : Int) := by omega
                  have HTJ := Lib.hid hlt
                  have HT1 : Hid (t + 1 ≤ j) := Lib.hid hlt
                  clear hd hpb hcb hrv hrvs hcp h8 hb1 hlt
                  go_upto_region 35 with fail
                  have M1 : Hid (FkS w base j (.slice (some ⟨gv, 0, none⟩) j c0) (.slice (some ⟨gu, 0, none⟩) j c1) bs cs msF d.l .a wo.drew) := Lib.hid (InvM.call M.out (Below.refl _ _).drew)
                  clear hu1 hu2
                  refine wp_region_linm (FkS w base j (.slice (some ⟨gv, 0, none⟩) j c0) (.slice (some ⟨gu, 0, none⟩) j c1) bs cs msF d.l) (fun _ _ => true) (fun i => i == 3 || i == 4 || i == 12) (fun qi => [.slice (some ⟨gv, 0, none⟩) j c0, .int .i64 (t : Int), (.pointer (some ⟨pb, 0, none⟩)), undef, undef, .slice (some ⟨gu, 0, none⟩) j c1, .int .i64 (t : Int), .pointer (some ⟨gu, t, none⟩), .pointer (some ⟨cb, 0, none⟩), .pointer (some ⟨cb, 0, none⟩), .pointer (some ⟨cb, 2, none⟩), .slice A2 d.l.length c2, undef, .bool false].getD qi undef) (FK.a) (by kernel_rfl) (by kernel_rfl) (M1.out) (fun _ => rfl) ?_
                  refine linm_step (i := 0) (d := some 150) (v := .slice (some ⟨gv, 0, none⟩) j c0) rfl rfl (by kernel_rfl) (by kernel_rfl) rfl rfl (ordm_value (by kernel_rfl) ?_) ?_
                  · (intro _ w' _ _; go_simp)
                  (try simp only [Act.put, List.setIfInBounds_toArray, List.set_cons_zero, List.set_cons_succ])
                  refine linm_step (i := 1) (d := some 151) (v := .int .i64 (t : Int)) rfl rfl (by kernel_rfl) (by kernel_rfl) rfl rfl (ordm_value (by kernel_rfl) ?_) ?_
                  · (intro _ w' _ _; go_simp)
                  (try simp only [Act.put, List.setIfInBounds_toArray, List.set_cons_zero, List.set_cons_succ])
                  refine linm_step (i := 2) (d := some 152) (v := (.pointer (some ⟨pb, 0, none⟩))) rfl rfl (by kernel_rfl) (by kernel_rfl) rfl rfl (ordm_call (f := 9) (args := #[.slice (some ⟨gv, 0, none⟩) j c0, .int .i64 (t : Int)]) (by kernel_rfl) ?_ (fun s W _ hS => (at_in gv j c0 t pb W HTJ.out (HPC.out _ hS.inv)).mono fun _ _ h => ⟨h.1, h.2 ▸ hS⟩)) ?_
                  · (intro _; go_simp <;> rfl)
                  (try simp only [Act.put, List.setIfInBounds_toArray, List.set_cons_zero, List.set_cons_succ])
                  refine linm_step (i := 5) (d := some 155) (v := .slice (some ⟨gu, 0, none⟩) j c1) rfl rfl (by kernel_rfl) (by kernel_rfl) rfl rfl (ordm_value (by kernel_rfl) ?_) ?_
                  · (intro _ w' _ _; go_simp)
                  (try simp only [Act.put, List.setIfInBounds_toArray, List.set_cons_zero, List.set_cons_succ])
                  refine linm_step (i := 6) (d := some 156) (v := .int .i64 (t : Int)) rfl rfl (by kernel_rfl) (by kernel_rfl) rfl rfl (ordm_value (by kernel_rfl) ?_) ?_
                  · (intro _ w' _ _; go_simp)
                  (try simp only [Act.put, List.setIfInBounds_toArray, List.set_cons_zero, List.set_cons_succ])
                  refine linm_step (i := 7) (d := some 157) (v := .pointer (some ⟨gu, t, none⟩)) rfl rfl (by kernel_rfl) (by kernel_rfl) rfl rfl (ordm_value (by kernel_rfl) ?_) ?_
                  · (intro _ w' _ _; go_simp)
                  (try simp only [Act.put, List.setIfInBounds_toArray, List.set_cons_zero, List.set_cons_succ])
                  refine linm_step (i := 8) (d := some 158) (v := .pointer (some ⟨cb, 0, none⟩)) rfl rfl (by kernel_rfl) (by kernel_rfl) rfl rfl (ordm_value (by kernel_rfl) (by intro s w' _ hS; have hcc := HUC.out _ (FkS.inv hS); go_simp)) ?_
                  (try simp only [Act.put, List.setIfInBounds_toArray, List.set_cons_zero, List.set_cons_succ])
                  refine linm_step (i := 9) (d := some 159) (v := .pointer (some ⟨cb, 0, none⟩)) rfl rfl (by kernel_rfl) (by kernel_rfl) rfl rfl (ordm_value (by kernel_rfl) ?_) ?_
                  · (intro _ w' _ _; go_simp)
                  (try simp only [Act.put, List.setIfInBounds_toArray, List.set_cons_zero, List.set_cons_succ])
                  refine linm_step (i := 10) (d := some 160) (v := .pointer (some ⟨cb, 2, none⟩)) rfl rfl (by kernel_rfl) (by kernel_rfl) rfl rfl (ordm_value (by kernel_rfl) ?_) ?_
                  · (intro _ w' _ _; go_simp)
                  (try simp only [Act.put, List.setIfInBounds_toArray, List.set_cons_zero, List.set_cons_succ])
                  refine linm_step (i := 11) (d := some 161) (v := .slice A2 d.l.length c2) rfl rfl (by kernel_rfl) (by kernel_rfl) rfl rfl (ordm_value (by kernel_rfl) (by intro s w' _ hS; have hcc := HRC.out _ (FkS.inv hS); go_simp)) ?_
                  (try simp only [Act.put, List.setIfInBounds_toArray, List.set_cons_zero, List.set_cons_succ])
                  refine linm_turn (i := 3) (d := some 153) [4, 12] (fun u s => ∃ A c, u = .slice A d.l.length c ∧ s = FK.c A) rfl rfl (by kernel_rfl) (by kernel_rfl) rfl (by kernel_rfl) (lost_no (fun _ _ _ _ => rfl)) (⟨_, _, none, 0, rfl, rfl⟩) (by kernel_rfl) (fun W hS => fk_all HDat.out HDD.out HOK.out HPB.out hS (by go_simp <;> rfl)) ?_
                  rintro u s' ⟨A5, c5, rfl, rfl⟩
                  (try simp only [Act.put, List.setIfInBounds_toArray, List.set_cons_zero, List.set_cons_succ])
                  refine linm_turn (i := 4) (d := some 154) [12] (fun u s => ∃ A c, u = .slice A d.l.length c ∧ s = FK.d A) rfl rfl (by kernel_rfl) (by kernel_rfl) rfl (by kernel_rfl) (lost_no (fun _ _ _ _ => rfl)) (⟨_, _, none, 0, rfl, rfl⟩) (by kernel_rfl) (fun W hS => fk_plain HOK.out hS (by go_simp <;> rfl)) ?_
                  rintro u s' ⟨A6, c6, rfl, rfl⟩
                  (try simp only [Act.put, List.setIfInBounds_toArray, List.set_cons_zero, List.set_cons_succ])
                  refine linm_turn (i := 12) (d := some 162) [] (fun u s => u = .bool true ∧ s = FK.e) rfl rfl (by kernel_rfl) (by kernel_rfl) rfl (by kernel_rfl) (lost_no (fun _ _ _ _ => rfl)) (⟨_, _, rfl, rfl⟩) (by kernel_rfl) (fun W hS => fk_same (c := c6) (c2 := c2) (A2 := A2) HOK.out hS (own_ens (HOwn.out _ hS.1) rfl) (by go_simp <;> rfl)) ?_
                  rintro u s' ⟨rfl, rfl⟩
                  (try simp only [Act.put, List.setIfInBounds_toArray, List.set_cons_zero, List.set_cons_succ])
                  refine linm_step (i := 13) (d := some 163) (v := .bool false) rfl rfl (by kernel_rfl) (by kernel_rfl) rfl rfl (ordm_value (by kernel_rfl) ?_) ?_
                  · (intro _ w' _ _; go_simp)
                  (try simp only [Act.put, List.setIfInBounds_toArray, List.set_cons_zero, List.set_cons_succ])
                  refine linm_done (by kernel_rfl) ?_
                  intro W hS
                  have M2 : Hid (InvM w base j (.slice (some ⟨gv, 0, none⟩) j c0) (.slice (some ⟨gu, 0, none⟩) j c1) bs cs msF W) := Lib.hid hS
                  clear hS M1
                  go_wp2
                  go_roundw
                  case rel => exact ⟨t + 1, HT1.out, by go_num, rfl, M2⟩
                  case measure => (have := HT1.out; simp [intOf] <;> omega)
                · obtain rfl : t = j := by omega
                  clear hlt
                  have HE := Lib.hid (entries_any ⟨msF, M.out, HDat.out⟩ HD.out.1 HD.out.2 hn)
                  have HE2 := Lib.hid (fun W h => clear_set (W := W) (w := w) (base := base) (n := t) (v := .slice (some ⟨gv, 0, none⟩) t c0) (u := .slice (some ⟨gu, 0, none⟩) t c1) (bs := bs) (cs := cs) (dp := ds) (dr := ds) h HD.out.1 hn)
                  have HE3 := Lib.hid (fun W h => entries_any (W := W) (w := w) (base := base) (n := t) (v := .slice (some ⟨gv, 0, none⟩) t c0) (u := .slice (some ⟨gu, 0, none⟩) t c1) (bs := bs) (cs := cs) (dp := clrK ds t) (dr := ds) h (by rw [clrK_len]; exact HD.out.1) (clrK_ok HD.out.2 t) hn)
                  rw [clrK_sum ds t HD.out.1] at HE3
                  generalize sumK ds t = SM at HE ⊢
                  go_wp2_with (first
                    | (go_at_call 15; (with_reducible refine (HE.out).mono ?_); rintro e w8 ⟨rfl, hb⟩; have M3 := Lib.hid (M.out.call hb); clear hb HE)
                    | (go_at_call 16; refine (HE2.out _ ⟨msF, M3.out, HDat.out⟩).mono ?_; rintro e w9 ⟨rfl, hi⟩; have M4 := Lib.hid hi; clear hi HE2)
                    | (go_at_call 15; (with_reducible refine (HE3.out _ M4.out).mono ?_); rintro e w10 ⟨rfl, hb⟩; have M5 := Lib.hid (Inv.call M4.out hb); clear hb HE3))
                  go_ret
                  obtain ⟨msE, hE, _⟩ := M5.out
                  exact ⟨rfl, hE.bel⟩
end Go.Proofs.Ytkomehplcacbcaa
