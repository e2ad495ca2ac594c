/-
  Proved: SlotMoves returns true for all bytes and entries: entries that are put into slots, one by one, the last of each slot, are those that all slots have.
  Conditions: none beside the statement's own.
-/
import Derived.Test.YtejedkdlehgnpaaNmov
namespace Go.Proofs.Ytejedkdlehgnpaa.slotMoves
open Go.ChangeShapes Go.WideShapes Go.ChangeAt Go.RowKit

theorem byte_at {W : World} {ba offa : Nat} {r0 : List (List Value)} {k : Nat} {v : Value} (h : ManyAt W (some ⟨ba, offa, none⟩) 1 r0) (hr : r0[k]? = some [v]) : W.cell? ⟨ba, offa + k, none⟩ = some v := by
  obtain ⟨b, off, e, _, hc⟩ := h.cells (by have := (List.getElem?_eq_some_iff.1 hr).1; omega)
  injection e with e
  injection e with e1 e2
  subst e1 e2
  have := hc k _ hr 0 v rfl
  rwa [Nat.mul_one, Nat.add_zero] at this
theorem start {A0 A1 : Option Addr} {r0 r1 : List (List Value)} {w w1 : World} (m0 : ManyAt w A0 1 r0) (m1 : ManyAt w A1 2 r1) (hb : Below w.heap.size w w1) :
    MvS w A0 r0 A1 r1 w1.heap.size (w1.heap.size + 1) zeros none4 ((w1.alloc (.cells zeroCells 32)).alloc (.cells #[.int .i64 0, .string ⟨#[]⟩, .int .i64 0, .string ⟨#[]⟩, .int .i64 0, .string ⟨#[]⟩, .int .i64 0, .string ⟨#[]⟩] 49)) ∧ MvD w A0 r0 A1 r1 w1.heap.size (w1.heap.size + 1) := by
  have hb2 : Below w.heap.size w ((w1.alloc (.cells zeroCells 32)).alloc (.cells #[.int .i64 0, .string ⟨#[]⟩, .int .i64 0, .string ⟨#[]⟩, .int .i64 0, .string ⟨#[]⟩, .int .i64 0, .string ⟨#[]⟩] 49)) := (hb.alloc hb.size _).alloc (by have := hb.size; simp; omega) _
  refine ⟨⟨m0.step hb2, m1.step hb2, (pageAt_zeros w1 _).alloc _, ?_, hb2, mvI_zero⟩, ⟨fun h b off e => ?_, fun h b off e => ?_, by omega, hb.size, by have := hb.size; omega⟩⟩
  · have h := rowAt_new (w1.alloc (.cells zeroCells 32)) (wantL none4) 49
    rw [World.size_alloc] at h
    exact h
  · obtain ⟨b', off', e', hlt, _⟩ := m0.cells h
    rw [e] at e'
    injection e' with e'
    injection e' with e1 e2
    have := hb.size
    omega
  · obtain ⟨b', off', e', hlt, _⟩ := m1.cells h
    rw [e] at e'
    injection e' with e'
    injection e' with e1 e2
    have := hb.size
    omega
set_option maxRecDepth 100000 in
set_option maxHeartbeats 16000000 in
theorem main (A0 : Option Addr) (n0 c0 : Nat) (r0 : List (List Value)) (A1 : Option Addr) (n1 c1 : Nat) (r1 : List (List Value)) (w : World) (h0 : r0.length = n0) (h1 : r1.length = n1) (g0 : ∀ r ∈ r0, ∃ x : UInt8, r = [.int .u8 (x.toNat : Int)]) (g1 : ∀ r ∈ r1, ∃ (m : Int) (s : ByteArray), r = entL m s ∧ s.size ≤ maxLen)
    (m0 : ManyAt w A0 1 r0) (m1 : ManyAt w A1 2 r1) (hn0 : n0 ≤ 30) (hn1 : n1 ≤ 30) :
    Calls Try.prog 7 #[.slice A0 n0 c0, .slice A1 n1 c1] w fun e w' => e = .returned (.bool true) ∧ Below w.heap.size w w' := by
  have HL0 := Lib.hid h0
  have HL1 := Lib.hid h1
  have HG0 := Lib.hid g0
  have HG1 := Lib.hid g1
  have HM := Lib.hid (And.intro m0 m1)
  have hI0 : (n0 : Int) ≤ 30 := by omega
  have hI1 : (n1 : Int) ≤ 30 := by omega
  have hd0 : decide ((30 : Int) < (n0 : Int)) = false := decide_eq_false (by omega)
  clear h0 h1 g0 g1 m0 m1
  go_enter Try.func7, Try.ntmps7
  go_wp2_with fail
  refine (awake_any _).mono ?_
  rintro e w1 ⟨rfl, hb⟩
  have hst := start HM.out.1 HM.out.2 hb
  rw [zeroCells_def] at hst
  have S0 := Lib.hid hst.1
  have DD := Lib.hid hst.2
  clear hst hb HM
  go_wp2_with fail
  generalize (w1.alloc _).alloc _ = w2 at S0 ⊢
  generalize w1.heap.size = d at S0 DD ⊢
  clear hd0
  go_loopw [25] (fun x wr => ∃ (k : Nat) (pg : List UInt8) (ws : List (Int × ByteArray)), k ≤ n1 ∧ x = .int .i64 (k : Int) ∧ Hid (MvS w A0 r0 A1 r1 d (d + 1) pg ws wr)) (fun x _ => n1 - (intOf x).toNat)
  case atStart => exact ⟨0, zeros, none4, Nat.zero_le _, rfl, S0⟩
  case round =>
    clear S0
    obtain ⟨k, pg, ws, hk, rfl, S⟩ := hrel
    by_cases hlt : k < n1
    · obtain ⟨b, off, hA, _, hc⟩ := S.out.ents.cells (by rw [HL1.out]; omega)
      obtain ⟨r, hr⟩ : ∃ r, r1[k]? = some r := ⟨_, List.getElem?_eq_getElem (by rw [HL1.out]; exact hlt)⟩
      obtain ⟨n, s, rfl, hms⟩ := HG1.out r (List.mem_of_getElem? hr)
      have HP := Lib.hid (hc k _ hr)
      have HMS := Lib.hid hms
      subst hA
      have hk0 : (0 : Int) ≤ (k : Int) := by omega
      have hk1 : (k : Int) < (n1 : Int) := by omega
      unfold maxLen at hms
      clear hc hr
      by_cases hat : n0 ≤ k
      · have hcmp : decide (n0 ≤ k) = true := decide_eq_true hat
        have HPG := Lib.hid S.out.inv.pl
        have HAll := Lib.hid S.out.inv.all
        have HWL := Lib.hid S.out.inv.len
        go_wp2_with (first
          | ((with_reducible refine wpList_load_at entT HP.out (entL_len _ _) rfl (.tmp 28) rfl ?_ ?_); (exact rfl))
          | ((with_reducible refine wpList_store_newrow entT (vs := entL n s) (entL_len _ _) (entL_one _ _) rfl (.tmp 8) (.tmp 29) rfl rfl ?_ ?_ ?_); (exact rfl); (exact rfl); intro W3 hP hb hz; have H := Lib.hid (S.out.add hb hP (entV_size n s)); have HE := Lib.hid (Nat.ne_of_lt S.out.page.lt); clear hP hb hz; generalize wr.heap.size = E at H HE ⊢; have hcs := H.out.ent.cell 1 _ rfl)
          | (with_reducible refine wpList_load_page H.out.page rfl (.tmp 5) rfl rfl ?_)
          | ((with_reducible refine wpList_buildPage (p := pg) HPG.out rfl (.tmp 62) rfl ?_ ?_); (exact rfl); clear hcs))
        replace S : Hid (MvS w A0 r0 (some ⟨b, off, none⟩) r1 d (d + 1) pg ws W3) := Lib.hid (H.out.back S.out.inv)
        clear H HE
        refine (all_any _ 1 1 [pg] _ (one_page W3 pg HPG.out) (fun _ b off h => by injection h with h; injection h with h1 h2; subst h1; simp) (by decide)).mono ?_
        rintro e w6 he
        unfold AllGive at he
        rw [if_pos HAll.out.2.1, HAll.out.2.2] at he
        obtain ⟨G, cG, rfl, hown, hb⟩ := he
        have T : Hid (MvT w G (d + 1) ws w6) := Lib.hid (by
          have h1 := S.out.call ((Below.refl _ W3).alloc (Nat.le_refl _) (.cells (byteVals pg).toArray 32))
          have h2 := h1.call hb
          exact ⟨HAll.out.1 ▸ owns_many hown HAll.out.2.2.symm, h2.want, h2.inv.len, h2.bel⟩)
        clear hown hb S
        go_wp2_with fail
        go_loopw [74] (fun x wr => ∃ i : Nat, i ≤ 4 ∧ x = .int .i64 (i : Int) ∧ Hid (MvT w G (d + 1) ws wr)) (fun x _ => 4 - (intOf x).toNat)
        case atStart => exact ⟨0, by omega, rfl, T⟩
        case round =>
          clear T
          obtain ⟨i, hi, rfl, T⟩ := hrel
          by_cases hi4 : i < 4
          · obtain ⟨g, og, hG, _, hg⟩ := T.out.got.cells (by rw [List.length_map, HWL.out]; decide)
            obtain ⟨y, hy⟩ : ∃ y, ws[i]? = some y := ⟨_, List.getElem?_eq_getElem (by rw [HWL.out]; exact hi4)⟩
            have HY := Lib.hid hy
            have HYM : Hid ((ws.map entX)[i]? = some (entX y)) := Lib.hid (by rw [List.getElem?_map, hy]; rfl)
            have HPos := Lib.hid (show 0 < (ws.map entX).length by rw [List.length_map, HWL.out]; decide)
            have X3 : Hid (∀ (x y1 : Operand) (w : World), (eqGuard .neq 23 x y1 (.agg (entX y).toArray) (.agg (entX y).toArray)).run Try.prog w = .ok () w) := Lib.hid (fun x y1 w => run_ngd_ent _ (Or.inl rfl) x y1 _ _ _ _ w)
            have X4 : Hid (∀ (w : World), (binOp .neq 23 (.agg (entX y).toArray) (.agg (entX y).toArray)).run Try.prog w = .ok (.bool false) w) := Lib.hid (fun w => (run_neq_ent _ (Or.inl rfl) _ _ _ _ w).trans (by rw [ent_refl]; rfl))
            have hi0 : (0 : Int) ≤ (i : Int) := by omega
            have hi1 : (i : Int) < 4 := by omega
            clear hg hy
            subst hG
            go_wp2_with fail
            refine wq_region (C := MvT w (some ⟨g, og, none⟩) (d + 1) ws) (by kernel_rfl) (T.out.call (below_drewN _ 1)) ?_
            refine wq_take (.slice (some ⟨g, og, none⟩) 4 cG) (by kernel_rfl) ?_ ?_
            · (intro _ _; go_simp)
            (try simp only [Act.put, List.setIfInBounds_toArray, List.set_cons_zero, List.set_cons_succ])
            refine wq_take (.int .i64 (i : Int)) (by kernel_rfl) ?_ ?_
            · (intro _ _; go_simp)
            (try simp only [Act.put, List.setIfInBounds_toArray, List.set_cons_zero, List.set_cons_succ])
            refine wq_take (.pointer (some ⟨g, og + i * 2, none⟩)) (by kernel_rfl) ?_ ?_
            · (intro _ _; go_simp)
            (try simp only [Act.put, List.setIfInBounds_toArray, List.set_cons_zero, List.set_cons_succ])
            refine wq_at entT (entX_length _) (.tmp 79) rfl rfl (by kernel_rfl) (fun W hC => by obtain ⟨g', og', e, _, hr⟩ := hC.got.cells HPos.out; injection e with e; injection e with e1 e2; subst e1 e2; exact hr _ _ HYM.out) ?_
            (try simp only [Act.put, List.setIfInBounds_toArray, List.set_cons_zero, List.set_cons_succ])
            refine wq_take (.int .i64 (i : Int)) (by kernel_rfl) ?_ ?_
            · (intro _ _; go_simp)
            (try simp only [Act.put, List.setIfInBounds_toArray, List.set_cons_zero, List.set_cons_succ])
            refine wq_take (.pointer (some ⟨d + 1, i * 2, none⟩)) (by kernel_rfl) ?_ ?_
            · (intro _ _; go_simp)
            (try simp only [Act.put, List.setIfInBounds_toArray, List.set_cons_zero, List.set_cons_succ])
            refine wq_at entT (entX_length _) (.tmp 82) rfl rfl (by kernel_rfl) (fun W hC => want_at HWL.out i y HY.out hC.want) ?_
            (try simp only [Act.put, List.setIfInBounds_toArray, List.set_cons_zero, List.set_cons_succ])
            refine wq_take (.bool false) (by kernel_rfl) ?_ ?_
            · (intro w' _; exact run_held rfl rfl rfl (X3.out _ _ w') (X4.out w'))
            (try simp only [Act.put, List.setIfInBounds_toArray, List.set_cons_zero, List.set_cons_succ])
            refine wq_nil ?_
            intro W8 hC
            have T8 := Lib.hid hC
            clear hC T
            go_wp2
            go_roundw
            case rel => exact ⟨i + 1, by omega, by go_num, T8⟩
            case measure => simp [intOf]; omega
          · obtain rfl : i = 4 := by omega
            go_wp2
            go_ret
            exact ⟨rfl, T.out.bel⟩
      · have hcmp : decide (n0 ≤ k) = false := decide_eq_false hat
        by_cases hsz : 100 < s.size
        · have hsd : decide ((100 : Int) < (s.size : Int)) = true := decide_eq_true (by omega)
          have HPG := Lib.hid S.out.inv.pl
          have HAll := Lib.hid S.out.inv.all
          have HWL := Lib.hid S.out.inv.len
          go_wp2_with (first
            | ((with_reducible refine wpList_load_at entT HP.out (entL_len _ _) rfl (.tmp 28) rfl ?_ ?_); (exact rfl))
            | ((with_reducible refine wpList_store_newrow entT (vs := entL n s) (entL_len _ _) (entL_one _ _) rfl (.tmp 8) (.tmp 29) rfl rfl ?_ ?_ ?_); (exact rfl); (exact rfl); intro W3 hP hb hz; have H := Lib.hid (S.out.add hb hP (entV_size n s)); have HE := Lib.hid (Nat.ne_of_lt S.out.page.lt); clear hP hb hz; generalize wr.heap.size = E at H HE ⊢; have hcs := H.out.ent.cell 1 _ rfl)
            | (with_reducible refine wpList_load_page H.out.page rfl (.tmp 5) rfl rfl ?_)
            | ((with_reducible refine wpList_buildPage (p := pg) HPG.out rfl (.tmp 62) rfl ?_ ?_); (exact rfl); clear hcs))
          replace S : Hid (MvS w A0 r0 (some ⟨b, off, none⟩) r1 d (d + 1) pg ws W3) := Lib.hid (H.out.back S.out.inv)
          clear H HE
          refine (all_any _ 1 1 [pg] _ (one_page W3 pg HPG.out) (fun _ b off h => by injection h with h; injection h with h1 h2; subst h1; simp) (by decide)).mono ?_
          rintro e w6 he
          unfold AllGive at he
          rw [if_pos HAll.out.2.1, HAll.out.2.2] at he
          obtain ⟨G, cG, rfl, hown, hb⟩ := he
          have T : Hid (MvT w G (d + 1) ws w6) := Lib.hid (by
            have h1 := S.out.call ((Below.refl _ W3).alloc (Nat.le_refl _) (.cells (byteVals pg).toArray 32))
            have h2 := h1.call hb
            exact ⟨HAll.out.1 ▸ owns_many hown HAll.out.2.2.symm, h2.want, h2.inv.len, h2.bel⟩)
          clear hown hb S
          go_wp2_with fail
          go_loopw [74] (fun x wr => ∃ i : Nat, i ≤ 4 ∧ x = .int .i64 (i : Int) ∧ Hid (MvT w G (d + 1) ws wr)) (fun x _ => 4 - (intOf x).toNat)
          case atStart => exact ⟨0, by omega, rfl, T⟩
          case round =>
            clear T
            obtain ⟨i, hi, rfl, T⟩ := hrel
            by_cases hi4 : i < 4
            · obtain ⟨g, og, hG, _, hg⟩ := T.out.got.cells (by rw [List.length_map, HWL.out]; decide)
              obtain ⟨y, hy⟩ : ∃ y, ws[i]? = some y := ⟨_, List.getElem?_eq_getElem (by rw [HWL.out]; exact hi4)⟩
              have HY := Lib.hid hy
              have HYM : Hid ((ws.map entX)[i]? = some (entX y)) := Lib.hid (by rw [List.getElem?_map, hy]; rfl)
              have HPos := Lib.hid (show 0 < (ws.map entX).length by rw [List.length_map, HWL.out]; decide)
              have X3 : Hid (∀ (x y1 : Operand) (w : World), (eqGuard .neq 23 x y1 (.agg (entX y).toArray) (.agg (entX y).toArray)).run Try.prog w = .ok () w) := Lib.hid (fun x y1 w => run_ngd_ent _ (Or.inl rfl) x y1 _ _ _ _ w)
              have X4 : Hid (∀ (w : World), (binOp .neq 23 (.agg (entX y).toArray) (.agg (entX y).toArray)).run Try.prog w = .ok (.bool false) w) := Lib.hid (fun w => (run_neq_ent _ (Or.inl rfl) _ _ _ _ w).trans (by rw [ent_refl]; rfl))
              have hi0 : (0 : Int) ≤ (i : Int) := by omega
              have hi1 : (i : Int) < 4 := by omega
              clear hg hy
              subst hG
              go_wp2_with fail
              refine wq_region (C := MvT w (some ⟨g, og, none⟩) (d + 1) ws) (by kernel_rfl) (T.out.call (below_drewN _ 1)) ?_
              refine wq_take (.slice (some ⟨g, og, none⟩) 4 cG) (by kernel_rfl) ?_ ?_
              · (intro _ _; go_simp)
              (try simp only [Act.put, List.setIfInBounds_toArray, List.set_cons_zero, List.set_cons_succ])
              refine wq_take (.int .i64 (i : Int)) (by kernel_rfl) ?_ ?_
              · (intro _ _; go_simp)
              (try simp only [Act.put, List.setIfInBounds_toArray, List.set_cons_zero, List.set_cons_succ])
              refine wq_take (.pointer (some ⟨g, og + i * 2, none⟩)) (by kernel_rfl) ?_ ?_
              · (intro _ _; go_simp)
              (try simp only [Act.put, List.setIfInBounds_toArray, List.set_cons_zero, List.set_cons_succ])
              refine wq_at entT (entX_length _) (.tmp 79) rfl rfl (by kernel_rfl) (fun W hC => by obtain ⟨g', og', e, _, hr⟩ := hC.got.cells HPos.out; injection e with e; injection e with e1 e2; subst e1 e2; exact hr _ _ HYM.out) ?_
              (try simp only [Act.put, List.setIfInBounds_toArray, List.set_cons_zero, List.set_cons_succ])
              refine wq_take (.int .i64 (i : Int)) (by kernel_rfl) ?_ ?_
              · (intro _ _; go_simp)
              (try simp only [Act.put, List.setIfInBounds_toArray, List.set_cons_zero, List.set_cons_succ])
              refine wq_take (.pointer (some ⟨d + 1, i * 2, none⟩)) (by kernel_rfl) ?_ ?_
              · (intro _ _; go_simp)
              (try simp only [Act.put, List.setIfInBounds_toArray, List.set_cons_zero, List.set_cons_succ])
              refine wq_at entT (entX_length _) (.tmp 82) rfl rfl (by kernel_rfl) (fun W hC => want_at HWL.out i y HY.out hC.want) ?_
              (try simp only [Act.put, List.setIfInBounds_toArray, List.set_cons_zero, List.set_cons_succ])
              refine wq_take (.bool false) (by kernel_rfl) ?_ ?_
              · (intro w' _; exact run_held rfl rfl rfl (X3.out _ _ w') (X4.out w'))
              (try simp only [Act.put, List.setIfInBounds_toArray, List.set_cons_zero, List.set_cons_succ])
              refine wq_nil ?_
              intro W8 hC
              have T8 := Lib.hid hC
              clear hC T
              go_wp2
              go_roundw
              case rel => exact ⟨i + 1, by omega, by go_num, T8⟩
              case measure => simp [intOf]; omega
            · obtain rfl : i = 4 := by omega
              go_wp2
              go_ret
              exact ⟨rfl, T.out.bel⟩
        · have hsd : decide ((100 : Int) < (s.size : Int)) = false := decide_eq_false (by omega)
          have hkn : k < n0 := by omega
          obtain ⟨ba, offa, hA0, _, _⟩ := S.out.ats.cells (by rw [HL0.out]; omega)
          subst hA0
          obtain ⟨r, hr⟩ : ∃ r, r0[k]? = some r := ⟨_, List.getElem?_eq_getElem (by rw [HL0.out]; exact hkn)⟩
          obtain ⟨x, rfl⟩ := HG0.out r (List.mem_of_getElem? hr)
          have HX := Lib.hid hr
          have hk2 : (k : Int) < (n0 : Int) := by omega
          obtain ⟨j, hj⟩ : ∃ j, x.toNat % 4 = j := ⟨_, rfl⟩
          have hj4 : j < 4 := by omega
          have hx0 : (0 : Int) ≤ (x.toNat : Int) := by omega
          have hx1 : (x.toNat : Int) < 256 := by have := x.toNat_lt; omega
          have hmod : (x.toNat : Int) % 4 = (j : Int) := by omega
          have htm : (x.toNat : Int).tmod 4 = (j : Int) := by rw [Int.tmod_eq_emod_of_nonneg hx0]; exact hmod
          have hj0 : (0 : Int) ≤ (j : Int) := by omega
          have hj1 : (j : Int) < 4 := by omega
          have HPut := Lib.hid (fun w => put_any pg (j : Int) n s w S.out.inv.pl HMS.out)
          have HQ := Lib.hid (putF_length S.out.inv.pl (j : Int) n s.data.toList)
          have HRt := Lib.hid (fun w => right_any n s w HMS.out)
          change Hid (∀ w, Calls Try.prog 13 #[pageV pg, .int .i64 (j : Int), .agg (entL n s).toArray] w fun e w' => e = .returned (pageV (putF pg (j : Int) n s.data.toList)) ∧ Below w.heap.size w w') at HPut
          change Hid (∀ w, Calls Try.prog 11 #[.agg (entL n s).toArray] w fun e w' => e = .returned (.bool (Nm.rightB n s.data.toList)) ∧ Below w.heap.size w w') at HRt
          have HInv : Hid (Nm.standB n s.data.toList = true → MvI (putF pg (j : Int) n s.data.toList) (ws.set j (n, s))) := Lib.hid (fun h => S.out.inv.put j hj4 n s h)
          have HSame : Hid (Nm.standB n s.data.toList = false → putF pg (j : Int) n s.data.toList = pg) := Lib.hid (fun h => putF_no h)
          have E3 : ∀ (x y : Operand) (w : World), (eqGuard .eql 23 x y (.agg (entL n s).toArray) (.agg #[.int .i64 0, .string ⟨#[]⟩])).run Try.prog w = .ok () w := fun x y w => run_egd_ent _ (Or.inl rfl) x y n 0 s ⟨#[]⟩ w
          have E4 : ∀ (w : World), (binOp .eql 23 (.agg (entL n s).toArray) (.agg #[.int .i64 0, .string ⟨#[]⟩])).run Try.prog w = .ok (.bool (n == 0 && s.toList == (⟨#[]⟩ : ByteArray).toList)) w := fun w => run_eql_ent _ (Or.inl rfl) n 0 s ⟨#[]⟩ w
          have hz : (n == 0 && s.toList == (⟨#[]⟩ : ByteArray).toList) = Nm.zeroB n s.data.toList := by
            rw [Lib.toList_data, Lib.toList_data]
            show (n == 0 && s.data.toList == []) = _
            unfold Nm.zeroB
            cases h1 : (n == 0 && s.data.toList == []) with
            | true =>
              rw [Bool.and_eq_true, beq_iff_eq, beq_iff_eq] at h1
              exact (decide_eq_true h1).symm
            | false =>
              symm
              refine decide_eq_false (fun h2 => ?_)
              rw [h2.1, h2.2] at h1
              cases h1
          rw [hz] at E4
          have HStand : Hid (Nm.standB n s.data.toList = (Nm.zeroB n s.data.toList || Nm.rightB n s.data.toList)) := Lib.hid rfl
          generalize putF pg (j : Int) n s.data.toList = q at HPut HQ HInv HSame
          generalize Nm.rightB n s.data.toList = rb at HRt HStand
          generalize Nm.zeroB n s.data.toList = zb at E4 HStand
          clear hr hj hz hkn
          cases rb with
          | true =>
            have HSt : Hid (Nm.standB n s.data.toList = true) := Lib.hid (by rw [HStand.out, Bool.or_true])
            clear E3 E4
            go_wp2_with (first
              | ((with_reducible refine wpList_load_at entT HP.out (entL_len _ _) rfl (.tmp 28) rfl ?_ ?_); (exact rfl))
              | ((with_reducible refine wpList_store_newrow entT (vs := entL n s) (entL_len _ _) (entL_one _ _) rfl (.tmp 8) (.tmp 29) rfl rfl ?_ ?_ ?_); (exact rfl); (exact rfl); intro W3 hP hb hz; have H := Lib.hid (S.out.add hb hP (entV_size n s)); have HE := Lib.hid (Nat.ne_of_lt S.out.page.lt); clear hP hb hz; generalize wr.heap.size = E at H HE ⊢; have hcs := H.out.ent.cell 1 _ rfl; have hcell := byte_at H.out.ats HX.out)
              | (with_reducible refine wpList_load_page H.out.page rfl (.tmp 5) rfl rfl ?_)
              | (with_reducible refine wpList_load_row entT H.out.ent (entL_len _ _) rfl (.tmp 8) rfl rfl ?_)
              | (go_at_call 13; (with_reducible refine (HPut.out _).mono ?_); rintro e w4 ⟨rfl, hb⟩; clear hcs hcell HPut; replace H := Lib.hid (H.out.call hb); clear hb)
              | ((with_reducible refine wpList_store_page H.out.page HQ.out rfl (.tmp 5) (.tmp 49) rfl rfl ?_ ?_); (exact rfl); have H2 := Lib.hid (H.out.page_put DD.out HE.out q HQ.out); clear H; generalize w4.setCells d 0 (byteVals q) = W5 at H2 ⊢)
              | (with_reducible refine wpList_load_row entT H2.out.ent (entL_len _ _) rfl (.tmp 8) rfl rfl ?_)
              | (go_at_call 11; (with_reducible refine (HRt.out _).mono ?_); rintro e w6 ⟨rfl, hb⟩; replace H2 := Lib.hid (H2.out.call hb); clear hb)
              | ((with_reducible refine wpList_loadg_row entT H2.out.ent (entL_len _ _) (.tmp 8) rfl rfl ?_ ?_); (exact rfl))
              | ((with_reducible refine wpList_store_at entT (vs := entL n s) (H2.out.thereW j hj4) (entL_len _ _) (entL_one _ _) rfl (.tmp 59) (.tmp 58) rfl ?_ ?_ ?_); (exact rfl); (exact rfl); have S5 := Lib.hid (H2.out.want_put DD.out j hj4 (n, s) (HInv.out HSt.out)); clear H2; change Hid (MvS w _ r0 _ r1 d (d + 1) q (ws.set j (n, s)) (w6.setCells (d + 1) (j * 2) (entL n s))) at S5; generalize w6.setCells (d + 1) (j * 2) (entL n s) = W7 at S5 ⊢))
            go_roundw
            case rel => exact ⟨k + 1, q, ws.set j (n, s), by omega, by go_num, S5⟩
            case measure => simp [intOf]; omega
          | false =>
            cases zb with
            | true =>
              have HSt : Hid (Nm.standB n s.data.toList = true) := Lib.hid (by rw [HStand.out]; rfl)
              go_wp2_with (first
                | ((with_reducible refine wpList_load_at entT HP.out (entL_len _ _) rfl (.tmp 28) rfl ?_ ?_); (exact rfl))
                | ((with_reducible refine wpList_store_newrow entT (vs := entL n s) (entL_len _ _) (entL_one _ _) rfl (.tmp 8) (.tmp 29) rfl rfl ?_ ?_ ?_); (exact rfl); (exact rfl); intro W3 hP hb hz; have H := Lib.hid (S.out.add hb hP (entV_size n s)); have HE := Lib.hid (Nat.ne_of_lt S.out.page.lt); clear hP hb hz; generalize wr.heap.size = E at H HE ⊢; have hcs := H.out.ent.cell 1 _ rfl; have hcell := byte_at H.out.ats HX.out)
                | (with_reducible refine wpList_load_page H.out.page rfl (.tmp 5) rfl rfl ?_)
                | (with_reducible refine wpList_load_row entT H.out.ent (entL_len _ _) rfl (.tmp 8) rfl rfl ?_)
                | (go_at_call 13; (with_reducible refine (HPut.out _).mono ?_); rintro e w4 ⟨rfl, hb⟩; clear hcs hcell HPut; replace H := Lib.hid (H.out.call hb); clear hb)
                | ((with_reducible refine wpList_store_page H.out.page HQ.out rfl (.tmp 5) (.tmp 49) rfl rfl ?_ ?_); (exact rfl); have H2 := Lib.hid (H.out.page_put DD.out HE.out q HQ.out); clear H; generalize w4.setCells d 0 (byteVals q) = W5 at H2 ⊢)
                | (with_reducible refine wpList_load_row entT H2.out.ent (entL_len _ _) rfl (.tmp 8) rfl rfl ?_)
                | (go_at_call 11; (with_reducible refine (HRt.out _).mono ?_); rintro e w6 ⟨rfl, hb⟩; replace H2 := Lib.hid (H2.out.call hb); clear hb)
                | ((with_reducible refine wpList_loadg_row entT H2.out.ent (entL_len _ _) (.tmp 8) rfl rfl ?_ ?_); (exact rfl))
                | ((with_reducible refine wpList_store_at entT (vs := entL n s) (H2.out.thereW j hj4) (entL_len _ _) (entL_one _ _) rfl (.tmp 59) (.tmp 58) rfl ?_ ?_ ?_); (exact rfl); (exact rfl); have S5 := Lib.hid (H2.out.want_put DD.out j hj4 (n, s) (HInv.out HSt.out)); clear H2; change Hid (MvS w _ r0 _ r1 d (d + 1) q (ws.set j (n, s)) (w6.setCells (d + 1) (j * 2) (entL n s))) at S5; generalize w6.setCells (d + 1) (j * 2) (entL n s) = W7 at S5 ⊢))
              go_roundw
              case rel => exact ⟨k + 1, q, ws.set j (n, s), by omega, by go_num, S5⟩
              case measure => simp [intOf]; omega
            | false =>
              have HSt : Hid (Nm.standB n s.data.toList = false) := Lib.hid (by rw [HStand.out]; rfl)
              go_wp2_with (first
                | ((with_reducible refine wpList_load_at entT HP.out (entL_len _ _) rfl (.tmp 28) rfl ?_ ?_); (exact rfl))
                | ((with_reducible refine wpList_store_newrow entT (vs := entL n s) (entL_len _ _) (entL_one _ _) rfl (.tmp 8) (.tmp 29) rfl rfl ?_ ?_ ?_); (exact rfl); (exact rfl); intro W3 hP hb hz; have H := Lib.hid (S.out.add hb hP (entV_size n s)); have HE := Lib.hid (Nat.ne_of_lt S.out.page.lt); clear hP hb hz; generalize wr.heap.size = E at H HE ⊢; have hcs := H.out.ent.cell 1 _ rfl; have hcell := byte_at H.out.ats HX.out)
                | (with_reducible refine wpList_load_page H.out.page rfl (.tmp 5) rfl rfl ?_)
                | (with_reducible refine wpList_load_row entT H.out.ent (entL_len _ _) rfl (.tmp 8) rfl rfl ?_)
                | (go_at_call 13; (with_reducible refine (HPut.out _).mono ?_); rintro e w4 ⟨rfl, hb⟩; clear hcs hcell HPut; replace H := Lib.hid (H.out.call hb); clear hb)
                | ((with_reducible refine wpList_store_page H.out.page HQ.out rfl (.tmp 5) (.tmp 49) rfl rfl ?_ ?_); (exact rfl); have H2 := Lib.hid (H.out.page_put DD.out HE.out q HQ.out); clear H; generalize w4.setCells d 0 (byteVals q) = W5 at H2 ⊢)
                | (with_reducible refine wpList_load_row entT H2.out.ent (entL_len _ _) rfl (.tmp 8) rfl rfl ?_)
                | (go_at_call 11; (with_reducible refine (HRt.out _).mono ?_); rintro e w6 ⟨rfl, hb⟩; replace H2 := Lib.hid (H2.out.call hb); clear hb)
                | ((with_reducible refine wpList_loadg_row entT H2.out.ent (entL_len _ _) (.tmp 8) rfl rfl ?_ ?_); (exact rfl)))
              have S5 : Hid (MvS w (some ⟨ba, offa, none⟩) r0 (some ⟨b, off, none⟩) r1 d (d + 1) q ws w6) := Lib.hid (H2.out.back (by rw [HSame.out HSt.out]; exact S.out.inv))
              clear H2 S
              go_roundw
              case rel => exact ⟨k + 1, q, ws, by omega, by go_num, S5⟩
              case measure => simp [intOf]; omega
    · obtain rfl : k = n1 := by omega
      have HPG := Lib.hid S.out.inv.pl
      have HAll := Lib.hid S.out.inv.all
      have HWL := Lib.hid S.out.inv.len
      go_wp2_with (first
        | (with_reducible refine wpList_load_page S.out.page rfl (.tmp 5) rfl rfl ?_)
        | ((with_reducible refine wpList_buildPage (p := pg) HPG.out rfl (.tmp 62) rfl ?_ ?_); (exact rfl)))
      refine (all_any _ 1 1 [pg] _ (one_page wr pg HPG.out) (fun _ b off h => by injection h with h; injection h with h1 h2; subst h1; simp) (by decide)).mono ?_
      rintro e w6 he
      unfold AllGive at he
      rw [if_pos HAll.out.2.1, HAll.out.2.2] at he
      obtain ⟨G, cG, rfl, hown, hb⟩ := he
      have T : Hid (MvT w G (d + 1) ws w6) := Lib.hid (by
        have h1 := S.out.call ((Below.refl _ wr).alloc (Nat.le_refl _) (.cells (byteVals pg).toArray 32))
        have h2 := h1.call hb
        exact ⟨HAll.out.1 ▸ owns_many hown HAll.out.2.2.symm, h2.want, h2.inv.len, h2.bel⟩)
      clear hown hb S
      go_wp2_with fail
      go_loopw [74] (fun x wr => ∃ i : Nat, i ≤ 4 ∧ x = .int .i64 (i : Int) ∧ Hid (MvT w G (d + 1) ws wr)) (fun x _ => 4 - (intOf x).toNat)
      case atStart => exact ⟨0, by omega, rfl, T⟩
      case round =>
        clear T
        obtain ⟨i, hi, rfl, T⟩ := hrel
        by_cases hi4 : i < 4
        · obtain ⟨g, og, hG, _, hg⟩ := T.out.got.cells (by rw [List.length_map, HWL.out]; decide)
          obtain ⟨y, hy⟩ : ∃ y, ws[i]? = some y := ⟨_, List.getElem?_eq_getElem (by rw [HWL.out]; exact hi4)⟩
          have HY := Lib.hid hy
          have HYM : Hid ((ws.map entX)[i]? = some (entX y)) := Lib.hid (by rw [List.getElem?_map, hy]; rfl)
          have HPos := Lib.hid (show 0 < (ws.map entX).length by rw [List.length_map, HWL.out]; decide)
          have X3 : Hid (∀ (x y1 : Operand) (w : World), (eqGuard .neq 23 x y1 (.agg (entX y).toArray) (.agg (entX y).toArray)).run Try.prog w = .ok () w) := Lib.hid (fun x y1 w => run_ngd_ent _ (Or.inl rfl) x y1 _ _ _ _ w)
          have X4 : Hid (∀ (w : World), (binOp .neq 23 (.agg (entX y).toArray) (.agg (entX y).toArray)).run Try.prog w = .ok (.bool false) w) := Lib.hid (fun w => (run_neq_ent _ (Or.inl rfl) _ _ _ _ w).trans (by rw [ent_refl]; rfl))
          have hi0 : (0 : Int) ≤ (i : Int) := by omega
          have hi1 : (i : Int) < 4 := by omega
          clear hg hy
          subst hG
          go_wp2_with fail
          refine wq_region (C := MvT w (some ⟨g, og, none⟩) (d + 1) ws) (by kernel_rfl) (T.out.call (below_drewN _ 1)) ?_
          refine wq_take (.slice (some ⟨g, og, none⟩) 4 cG) (by kernel_rfl) ?_ ?_
          · (intro _ _; go_simp)
          (try simp only [Act.put, List.setIfInBounds_toArray, List.set_cons_zero, List.set_cons_succ])
          refine wq_take (.int .i64 (i : Int)) (by kernel_rfl) ?_ ?_
          · (intro _ _; go_simp)
          (try simp only [Act.put, List.setIfInBounds_toArray, List.set_cons_zero, List.set_cons_succ])
          refine wq_take (.pointer (some ⟨g, og + i * 2, none⟩)) (by kernel_rfl) ?_ ?_
          · (intro _ _; go_simp)
          (try simp only [Act.put, List.setIfInBounds_toArray, List.set_cons_zero, List.set_cons_succ])
          refine wq_at entT (entX_length _) (.tmp 79) rfl rfl (by kernel_rfl) (fun W hC => by obtain ⟨g', og', e, _, hr⟩ := hC.got.cells HPos.out; injection e with e; injection e with e1 e2; subst e1 e2; exact hr _ _ HYM.out) ?_
          (try simp only [Act.put, List.setIfInBounds_toArray, List.set_cons_zero, List.set_cons_succ])
          refine wq_take (.int .i64 (i : Int)) (by kernel_rfl) ?_ ?_
          · (intro _ _; go_simp)
          (try simp only [Act.put, List.setIfInBounds_toArray, List.set_cons_zero, List.set_cons_succ])
          refine wq_take (.pointer (some ⟨d + 1, i * 2, none⟩)) (by kernel_rfl) ?_ ?_
          · (intro _ _; go_simp)
          (try simp only [Act.put, List.setIfInBounds_toArray, List.set_cons_zero, List.set_cons_succ])
          refine wq_at entT (entX_length _) (.tmp 82) rfl rfl (by kernel_rfl) (fun W hC => want_at HWL.out i y HY.out hC.want) ?_
          (try simp only [Act.put, List.setIfInBounds_toArray, List.set_cons_zero, List.set_cons_succ])
          refine wq_take (.bool false) (by kernel_rfl) ?_ ?_
          · (intro w' _; exact run_held rfl rfl rfl (X3.out _ _ w') (X4.out w'))
          (try simp only [Act.put, List.setIfInBounds_toArray, List.set_cons_zero, List.set_cons_succ])
          refine wq_nil ?_
          intro W8 hC
          have T8 := Lib.hid hC
          clear hC T
          go_wp2
          go_roundw
          case rel => exact ⟨i + 1, by omega, by go_num, T8⟩
          case measure => simp [intOf]; omega
        · obtain rfl : i = 4 := by omega
          go_wp2
          go_ret
          exact ⟨rfl, T.out.bel⟩
set_option maxRecDepth 100000 in
set_option maxHeartbeats 1000000 in
theorem many (A0 : Option Addr) (n0 c0 : Nat) (A1 : Option Addr) (n1 c1 : Nat) (w : World) (h : 30 < n0 ∨ (¬ 30 < n0 ∧ 30 < n1)) :
    Calls Try.prog 7 #[.slice A0 n0 c0, .slice A1 n1 c1] w fun e w' => e = .returned (.bool true) ∧ Below w.heap.size w w' := by
  rcases h with h | ⟨h, h'⟩
  · have hI : decide ((30 : Int) < (n0 : Int)) = true := decide_eq_true (by omega)
    have hI2 : (30 : Int) < (n0 : Int) := by omega
    go_enter Try.func7, Try.ntmps7
    go_wp2_with fail
    refine (awake_any _).mono ?_
    rintro e w1 ⟨rfl, hb⟩
    have HB := Lib.hid hb
    clear hb
    go_wp2
    go_ret
    exact ⟨rfl, HB.out⟩
  · have hI : decide ((30 : Int) < (n0 : Int)) = false := decide_eq_false (by omega)
    have hI2 : (30 : Int) < (n1 : Int) := by omega
    have hI3 : decide ((30 : Int) < (n1 : Int)) = true := decide_eq_true (by omega)
    go_enter Try.func7, Try.ntmps7
    go_wp2_with fail
    refine (awake_any _).mono ?_
    rintro e w1 ⟨rfl, hb⟩
    have HB := Lib.hid hb
    clear hb
    go_wp2
    go_ret
    exact ⟨rfl, HB.out⟩
theorem walk (A0 : Option Addr) (n0 c0 : Nat) (r0 : List (List Value)) (A1 : Option Addr) (n1 c1 : Nat) (r1 : List (List Value)) (w : World) (h0 : r0.length = n0) (h1 : r1.length = n1) (g0 : ∀ r ∈ r0, ∃ x : UInt8, r = [.int .u8 (x.toNat : Int)]) (g1 : ∀ r ∈ r1, ∃ (m : Int) (s : ByteArray), r = entL m s ∧ s.size ≤ maxLen)
    (m0 : ManyAt w A0 1 r0) (m1 : ManyAt w A1 2 r1) :
    Calls Try.prog 7 #[.slice A0 n0 c0, .slice A1 n1 c1] w fun e w' => e = .returned (.bool true) ∧ Below w.heap.size w w' := by
  by_cases h : 30 < n0 ∨ (¬ 30 < n0 ∧ 30 < n1)
  · exact many A0 n0 c0 A1 n1 c1 w h
  · exact main A0 n0 c0 r0 A1 n1 c1 r1 w h0 h1 g0 g1 m0 m1 (by omega) (by omega)
set_option maxRecDepth 100000 in
theorem lifted (os : Os) (started : os.Started) (H : Type) (enc : TypeId × Value → H) :
    ReturnsInHanded {} Try.checked os 7 .any (Rows.slotMovesSpec.pre6 enc Try.prog Try.f7 Rows.slotMovesRow.domain false) (Rows.slotMovesSpec.post enc Try.prog Try.f7 false true false false) := by
  refine returnsInHanded_of_change (C := Try.checked) own started (by kernel_rfl) Try.func7
    (ChangeSpec.witness6 (enc := enc) (C := Try.checked) false ⟨#[], #[.slice none 0 0, .slice none 0 0], []⟩ 8 (by kernel_rfl) (by kernel_rfl) (by kernel_rfl) (by kernel_rfl)) ?_
  intro W base args ds gs before hval0 hW hcnd _
  have hval : ∀ (j : Nat) t v, Try.f7.params[j]? = some t → args[j]? = some v → Value.okWide Try.prog W .any base t v := hval0
  have hW' := hW
  obtain ⟨p, q, hA0, hV, rfl, hfz, hnd⟩ := hW
  have hA : DataW.TrodAll enc Try.prog W 0 (fun _ => true) true Try.f7.params.toList args.toList ds p := hA0
  rw [Try.params7] at hA hval
  obtain ⟨v0, vs0, d0, ds0, p0, q0, hargs, rfl, rfl, h0, r0⟩ := trodAll_cons hA
  obtain ⟨v1, vs1, d1, ds1, p1, q1, rfl, rfl, rfl, h1, r1⟩ := trodAll_cons r0
  obtain ⟨rfl, rfl, rfl⟩ := trodAll_nil r1
  obtain rfl : args = #[v0, v1] := by cases args; simp_all
  obtain ⟨rfl, rfl⟩ := trodVars_none hV
  have k0 := h0
  have lt0 : ∀ x ∈ p0, x.block < W.heap.size := by obtain ⟨m, hm⟩ := k0; exact DataW.trod_lt m _ _ _ hm
  have k1 := h1
  have lt1 : ∀ x ∈ p1, x.block < W.heap.size := by obtain ⟨m, hm⟩ := k1; exact DataW.trod_lt m _ _ _ hm
  obtain ⟨A0, n0, c0, R0, rfl, hl0, _, hg0, hm0⟩ := open_bytes (hval 0 48 v0 rfl rfl) h0
  obtain ⟨A1, n1, c1, R1, rfl, hl1, _, hg1, hm1⟩ := open_ents (hval 1 44 v1 rfl rfl) h1
  clear hA0 hval0
  refine (walk A0 n0 c0 R0 A1 n1 c1 R1 W hl0 hl1 hg0 hg1 hm0 hm1).mono fun e W' ⟨he, bel⟩ => ?_
  subst he
  exact ⟨_, rfl, _, _, _, [], _, [], hW', trodAll_mk1 (shut_bool Try.underlying4 _), (trodAll_cons_mk (Below.trod laidOut (by kernel_rfl) (of_decide_eq_true (by kernel_rfl)) k0 bel lt0) (trodAll_cons_mk (Below.trod laidOut (by kernel_rfl) (of_decide_eq_true (by kernel_rfl)) k1 bel lt1) trodAll_mk0)), rfl, bel.frame _, fun h => by cases h⟩
theorem over : Rows.slotMovesRow.holds Try.pinned (OpenSpec.ofChange Rows.slotMovesSpec) :=
  OpenClaim.holds_of_wide 7 Try.f7 rfl rfl rfl rfl rfl rfl rfl ⟨rfl, rfl, rfl, rfl, rfl⟩ rfl rfl rfl rfl rfl (by kernel_rfl) Try.func7 (by kernel_rfl)
    (of_decide_eq_true (by kernel_rfl)) (by unfold Func.isWrapper; first | (rw [if_pos (by decide +kernel)]; kernel_rfl) | (rw [if_neg (by decide +kernel)]; exact ⟨rfl, rfl⟩))
    (fun os started H enc _ => lifted os started H enc)

/-- THE STATEMENT -/
theorem proved : Rows.SlotMovesSaid := over
#print axioms proved
end Go.Proofs.Ytejedkdlehgnpaa.slotMoves
