/-
  Proved: SlotAll returns true for all pages: the entries of pages are those of their slots, in order, or there are none, if one is none.
  Conditions: none beside the statement's own.
-/
import Derived.Test.YtejedkdlehgnpaaNallw
namespace Go.Proofs.Ytejedkdlehgnpaa.slotAll
open Go.ChangeShapes Go.WideShapes Go.ChangeAt Go.RowKit

theorem wq_at {ops : Array Oper} {rest : List Oper} {op : Oper} {a : Act} {Q : Act → Prop} {C : World → Prop} {t : TypeId} {n b o : Nat} {vs : List Value} (ht : RowT t n) (hl : vs.length = n) (x : Operand) (ho : op.op = .load t x) (hx : a.eval x = .pointer (some ⟨b, o, none⟩)) (hw : Region.wanted op (yielded ops a.tmps) = true)
    (hC : ∀ w, C w → w.rangeAt b o vs) (h : Wq ops C Q rest (a.put op.dst (.agg vs.toArray))) : Wq ops C Q (op :: rest) a := by
  refine wq_take (.agg vs.toArray) hw (fun w hc => ?_) h
  obtain ⟨d, hd, hr⟩ := ht.row
  have hrun := run_loadVar_mid (P := Try.prog) w b o t vs d (hC w hc) hd hr (by rw [ht.info, hl])
  unfold execOp
  simp only [ho, hx, Instr.loadAt, Instr.sureAddr, Sem.run_bind, Sem.run_pure, Result.andThen_ok, hrun]
/-- what stands in memory between the rounds: the pages that came in, the entries that All gave -/
structure LaS (w0 : World) (A : Option Addr) (n : Nat) (ps : List (List UInt8)) (G : Option Addr) (rs : List (List Value)) (W : World) : Prop where
  pages : PagesIn W A n ps
  ents : ManyAt W G 2 rs
  bel : Below w0.heap.size w0 W
theorem LaS.call {w0 : World} {A : Option Addr} {n : Nat} {ps : List (List UInt8)} {G : Option Addr} {rs : List (List Value)} {W W' : World} (k : LaS w0 A n ps G rs W) (hb : Below W.heap.size W W') : LaS w0 A n ps G rs W' := ⟨k.pages.step hb, k.ents.step hb, k.bel.trans (hb.mono k.bel.size)⟩
/-- the same in a round: the page; the entry -/
structure LaP (w0 : World) (A : Option Addr) (n : Nat) (ps : List (List UInt8)) (G : Option Addr) (rs : List (List Value)) (B : Nat) (p : List UInt8) (W : World) : Prop where
  la : LaS w0 A n ps G rs W
  page : PageAt W B p
theorem LaP.call {w0 : World} {A : Option Addr} {n : Nat} {ps : List (List UInt8)} {G : Option Addr} {rs : List (List Value)} {B : Nat} {p : List UInt8} {W W' : World} (k : LaP w0 A n ps G rs B p W) (hb : Below W.heap.size W W') : LaP w0 A n ps G rs B p W' := ⟨k.la.call hb, k.page.step hb⟩
structure LaE (w0 : World) (A : Option Addr) (n : Nat) (ps : List (List UInt8)) (G : Option Addr) (rs : List (List Value)) (B : Nat) (p : List UInt8) (E : Nat) (vs : List Value) (W : World) : Prop where
  lp : LaP w0 A n ps G rs B p W
  ent : RowAt W E vs
theorem LaE.drew {w0 : World} {A : Option Addr} {n : Nat} {ps : List (List UInt8)} {G : Option Addr} {rs : List (List Value)} {B : Nat} {p : List UInt8} {E : Nat} {vs : List Value} {W : World} (k : LaE w0 A n ps G rs B p E vs W) : LaE w0 A n ps G rs B p E vs W.drew := ⟨k.lp.call (below_drewN W 1), k.ent.drew⟩
theorem blocks_at (ps : List (List UInt8)) (k : Nat) (p : List UInt8) (h : ps[k]? = some p) (j : Nat) (hj : j < 4) : (blocks ps)[4 * k + j]? = some (Nm.at_ p j) := by
  obtain ⟨hk, he⟩ := List.getElem?_eq_some_iff.1 h
  have h1 := blocks_more ps k p h
  have h2 : blocks ps = blocks (ps.take (k + 1)) ++ blocks (ps.drop (k + 1)) := by
    unfold blocks
    rw [← List.flatMap_append, List.take_append_drop]
  have hl : (blocks (ps.take k)).length = 4 * k := by rw [blocks_length, List.length_take]; omega
  rw [h2, h1, List.append_assoc, List.getElem?_append_right (by omega), hl, List.getElem?_append_left (by rw [slots_length]; omega), Nat.add_sub_cancel_left]
  have : j = 0 ∨ j = 1 ∨ j = 2 ∨ j = 3 := by omega
  rcases this with rfl | rfl | rfl | rfl <;> rfl
set_option maxRecDepth 100000 in
set_option maxHeartbeats 8000000 in
theorem good (A : Option Addr) (n c : Nat) (ps : List (List UInt8)) (w : World) (hin : PagesIn w A n ps) (hf : 0 < n → ∀ b off, A = some ⟨b, off, none⟩ → b < w.heap.size) (hn : n ≤ 20) (hok : allOk (blocks ps) = true) :
    Calls Try.prog 6 #[.slice A n c] w fun e w' => e = .returned (.bool true) ∧ Below w.heap.size w w' := by
  have HL := Lib.hid hin.len
  have HZ := Lib.hid hin.size
  have S0 := Lib.hid hin
  have HF := Lib.hid hf
  have HOk := Lib.hid hok
  have hnI : (n : Int) ≤ 20 := by omega
  clear hin hf hok
  go_enter Try.func6, Try.ntmps6
  go_wp2_with fail
  refine (awake_any _).mono ?_
  rintro e w1 ⟨rfl, hb⟩
  have S1 := Lib.hid (And.intro (S0.out.step hb) hb)
  clear hb S0
  go_wp2_with fail
  refine (all_any A n c ps _ S1.out.1 (fun h0 b off h => Nat.lt_of_lt_of_le (HF.out h0 b off h) S1.out.2.size) (by omega)).mono ?_
  rintro e w2 he
  unfold AllGive at he
  rw [HOk.out] at he
  rw [if_pos rfl] at he
  obtain ⟨G, cG, rfl, hown, hb⟩ := he
  have S : Hid (LaS w A n ps G ((blocks ps).map eL) w2) := Lib.hid ⟨S1.out.1.step hb, owns_many hown rfl, S1.out.2.trans (hb.mono S1.out.2.size)⟩
  have HLen := Lib.hid (blocks_length ps)
  rw [HL.out] at HLen
  obtain ⟨m, hm⟩ : ∃ m, (blocks ps).length = m := ⟨_, rfl⟩
  have HM := Lib.hid hm
  rw [hm]
  have HM4 : Hid (m = 4 * n) := Lib.hid (by rw [← hm]; exact HLen.out)
  have HR : Hid (∀ k p j, ps[k]? = some p → j < 4 → okE (Nm.at_ p j) = true) := Lib.hid (fun k p j h hj => by
    cases hc : okE (Nm.at_ p j) with
    | true => rfl
    | false => have := allOk_no ps k p h j hj hc; rw [HOk.out] at this; cases this)
  clear hown hb hm S1 HF
  go_wp2_with fail
  go_loopw [5, 23] (fun q x wr => ∃ k : Nat, k ≤ n ∧ x = .int .i64 (k : Int) ∧ q = .int .i64 ((4 * k : Nat) : Int) ∧ Hid (LaS w A n ps G ((blocks ps).map eL) wr)) (fun _ x _ => n - (intOf x).toNat)
  case atStart => exact ⟨0, Nat.zero_le _, rfl, rfl, S⟩
  case round =>
    clear S
    obtain ⟨k, hk, rfl, rfl, S⟩ := hrel
    rename World => wo
    by_cases hlt : k < n
    · obtain ⟨b, off, hA, hb, hc⟩ := S.out.pages.rows.cells (by rw [List.length_map, HL.out]; omega)
      obtain ⟨p, hp⟩ : ∃ p, ps[k]? = some p := ⟨_, List.getElem?_eq_getElem (by rw [HL.out]; exact hlt)⟩
      have HP := Lib.hid (hc k (byteVals p) (by rw [List.getElem?_map, hp]; rfl))
      have HPL := Lib.hid (HZ.out p (List.mem_of_getElem? hp))
      have HBL := Lib.hid (show (byteVals p).length = 64 by rw [byteVals_length, HPL.out])
      have HMore := Lib.hid (blocks_more ps k p hp)
      have HPk := Lib.hid hp
      subst hA
      have hk0 : (0 : Int) ≤ (k : Int) := by omega
      have hk1 : (k : Int) < (n : Int) := by omega
      clear hc hp hb
      go_wp2_with (first
        | ((with_reducible refine wpList_load_at pageT HP.out HBL.out rfl (.tmp 25) rfl ?_ ?_); (exact rfl))
        | ((with_reducible refine wpList_store_new (p := p) rfl (.tmp 7) (.tmp 26) rfl rfl ?_ ?_ HPL.out ?_); (exact rfl); (exact rfl); intro W2 hP hB2 hz2; have P := Lib.hid (LaP.mk (S.out.call hB2) hP); clear hP hB2 hz2 S; generalize wo.heap.size = B at P ⊢))
      go_loopw [5, 8] (fun q x wr => ∃ j : Nat, j ≤ 4 ∧ x = .int .i64 (j : Int) ∧ q = .int .i64 ((4 * k + j : Nat) : Int) ∧ Hid (LaP w (some ⟨b, off, none⟩) n ps G ((blocks ps).map eL) B p wr)) (fun _ x _ => 4 - (intOf x).toNat)
      case atStart => exact ⟨0, by omega, rfl, rfl, P⟩
      case round =>
        clear P
        obtain ⟨j, hj, rfl, rfl, P⟩ := hrel
        by_cases hj4 : j < 4
        · have HRG := Lib.hid (fun w => refGet_any p j w HPL.out hj4)
          have HAt := Lib.hid (slots_at p j hj4)
          have HOKj := Lib.hid (HR.out k p j HPk.out hj4)
          have HIdx := Lib.hid (blocks_at ps k p HPk.out j hj4)
          generalize Nm.at_ p j = bk at HRG HAt HOKj HIdx
          change Hid (∀ w, Calls Try.prog 17 #[pageV p, .int .i64 (j : Int)] w fun e w' => e = .returned (.tuple #[.agg (eL bk).toArray, .bool (okE bk)]) ∧ Below w.heap.size w w') at HRG
          rw [HOKj.out] at HRG
          obtain ⟨q, hq⟩ : ∃ q, 4 * k + j = q := ⟨_, rfl⟩
          have HQ := Lib.hid hq
          rw [hq]
          clear hq
          go_wp2_with (first
            | (with_reducible refine wpList_load_page P.out.page rfl (.tmp 7) rfl rfl ?_)
            | (go_at_call 17; (with_reducible refine (HRG.out _).mono ?_); rintro e w3 ⟨rfl, hb⟩; replace P := Lib.hid (P.out.call hb); clear hb)
            | ((with_reducible refine wpList_store_newrow rentT (vs := eL bk) (eL_length _) (eL_one _) rfl (.tmp 9) (.tmp 35) rfl rfl ?_ ?_ ?_); (exact rfl); (exact rfl); intro W4 hP hb hz; have V := Lib.hid (LaE.mk (P.out.call hb) hP); clear hP hb hz P; generalize w3.heap.size = E at V ⊢))
          obtain ⟨g, og, hG, _, _⟩ := V.out.lp.la.ents.cells (by rw [List.length_map, HM.out, HM4.out]; omega)
          have HPos := Lib.hid (show 0 < ((blocks ps).map eL).length by rw [List.length_map, HM.out, HM4.out]; omega)
          have HEnt : Hid (((blocks ps).map eL)[4 * k + j]? = some (eL bk)) := Lib.hid (by rw [List.getElem?_map, HIdx.out]; rfl)
          have X3 : Hid (∀ (x y : Operand) (w : World), (eqGuard .neq 30 x y (.agg (eL bk).toArray) (.agg (eL bk).toArray)).run Try.prog w = .ok () w) := Lib.hid (fun x y w => run_ngd_ent _ (Or.inr rfl) x y _ _ _ _ w)
          have X4 : Hid (∀ (w : World), (binOp .neq 30 (.agg (eL bk).toArray) (.agg (eL bk).toArray)).run Try.prog w = .ok (.bool false) w) := Lib.hid (fun w => (run_neq_ent _ (Or.inr rfl) _ _ _ _ w).trans (by rw [ent_refl]; rfl))
          rw [HQ.out] at HEnt
          have HQM : Hid (q < m) := Lib.hid (by have := HM4.out; have := HQ.out; omega)
          have hq0 : (0 : Int) ≤ (q : Int) := by omega
          have hqb : (q : Int) ≤ 100 := by have := HQ.out; omega
          have hq1 : (q : Int) < (m : Int) := by have := HQM.out; omega
          have hq2 : decide (0 < m) = true := decide_eq_true (by have := HQM.out; omega)
          have hq3 : decide (m ≤ q) = false := decide_eq_false (by have := HQM.out; omega)
          refine wq_region (C := LaE w (some ⟨b, off, none⟩) n ps G ((blocks ps).map eL) B p E (eL bk)) (by kernel_rfl) V.out.drew ?_
          refine wq_take (.slice G m cG) (by kernel_rfl) ?_ ?_
          · (intro _ _; go_simp)
          (try simp only [Act.put, List.setIfInBounds_toArray, List.set_cons_zero, List.set_cons_succ])
          refine wq_take (.int .i64 (m : Int)) (by kernel_rfl) ?_ ?_
          · (intro _ _; go_simp)
          (try simp only [Act.put, List.setIfInBounds_toArray, List.set_cons_zero, List.set_cons_succ])
          refine wq_take (.bool true) (by kernel_rfl) ?_ ?_
          · (intro _ _; go_simp)
          (try simp only [Act.put, List.setIfInBounds_toArray, List.set_cons_zero, List.set_cons_succ])
          refine wq_take (.bool true) (by kernel_rfl) ?_ ?_
          · (intro _ _; go_simp)
          (try simp only [Act.put, List.setIfInBounds_toArray, List.set_cons_zero, List.set_cons_succ])
          refine wq_take (.int .i64 (q : Int)) (by kernel_rfl) ?_ ?_
          · (intro _ _; go_simp)
          (try simp only [Act.put, List.setIfInBounds_toArray, List.set_cons_zero, List.set_cons_succ])
          refine wq_take (.slice G m cG) (by kernel_rfl) ?_ ?_
          · (intro _ _; go_simp)
          (try simp only [Act.put, List.setIfInBounds_toArray, List.set_cons_zero, List.set_cons_succ])
          refine wq_take (.int .i64 (m : Int)) (by kernel_rfl) ?_ ?_
          · (intro _ _; go_simp)
          (try simp only [Act.put, List.setIfInBounds_toArray, List.set_cons_zero, List.set_cons_succ])
          refine wq_take (.bool false) (by kernel_rfl) ?_ ?_
          · (intro _ _; go_simp)
          (try simp only [Act.put, List.setIfInBounds_toArray, List.set_cons_zero, List.set_cons_succ])
          refine wq_take (.bool false) (by kernel_rfl) ?_ ?_
          · (intro _ _; go_simp)
          (try simp only [Act.put, List.setIfInBounds_toArray, List.set_cons_zero, List.set_cons_succ])
          refine wq_take (.slice G m cG) (by kernel_rfl) ?_ ?_
          · (intro _ _; go_simp)
          (try simp only [Act.put, List.setIfInBounds_toArray, List.set_cons_zero, List.set_cons_succ])
          refine wq_take (.int .i64 (q : Int)) (by kernel_rfl) ?_ ?_
          · (intro _ _; go_simp)
          (try simp only [Act.put, List.setIfInBounds_toArray, List.set_cons_zero, List.set_cons_succ])
          refine wq_take (.pointer (some ⟨g, og + q * 2, none⟩)) (by kernel_rfl) ?_ ?_
          · (intro _ _; subst hG; go_simp)
          (try simp only [Act.put, List.setIfInBounds_toArray, List.set_cons_zero, List.set_cons_succ])
          refine wq_at entT (eL_length _) (.tmp 57) rfl rfl (by kernel_rfl) (fun W hC => by obtain ⟨g', og', e, _, hr⟩ := hC.lp.la.ents.cells HPos.out; rw [hG] at e; injection e with e; injection e with e1 e2; subst e1 e2; exact hr _ _ HEnt.out) ?_
          (try simp only [Act.put, List.setIfInBounds_toArray, List.set_cons_zero, List.set_cons_succ])
          refine wq_row rentT (eL_length _) (.tmp 9) rfl rfl (by kernel_rfl) (fun _ hC => hC.ent) ?_
          (try simp only [Act.put, List.setIfInBounds_toArray, List.set_cons_zero, List.set_cons_succ])
          refine wq_take (.bool false) (by kernel_rfl) ?_ ?_
          · (intro w' _; exact run_held rfl rfl rfl (X3.out _ _ w') (X4.out w'))
          (try simp only [Act.put, List.setIfInBounds_toArray, List.set_cons_zero, List.set_cons_succ])
          refine wq_take (.bool false) (by kernel_rfl) ?_ ?_
          · (intro _ _; go_simp)
          (try simp only [Act.put, List.setIfInBounds_toArray, List.set_cons_zero, List.set_cons_succ])
          refine wq_take (.bool false) (by kernel_rfl) ?_ ?_
          · (intro _ _; go_simp)
          (try simp only [Act.put, List.setIfInBounds_toArray, List.set_cons_zero, List.set_cons_succ])
          refine wq_nil ?_
          intro W8 hC
          have P8 := Lib.hid hC.lp
          clear hC V
          go_wp2
          go_roundw
          case rel => exact ⟨j + 1, by omega, by go_num, by rw [show 4 * k + (j + 1) = q + 1 from by have := HQ.out; omega]; go_num, P8⟩
          case measure => simp [intOf]; omega
        · obtain rfl : j = 4 := by omega
          have S3 := Lib.hid P.out.la
          clear P
          go_wp2
          go_roundw
          case rel => exact ⟨k + 1, by omega, by go_num, by go_num, S3⟩
          case measure => simp [intOf]; omega
    · obtain rfl : k = n := by omega
      have hmE : (m : Int) = ((4 * k : Nat) : Int) := by have := HM4.out; omega
      go_wp2
      go_ret
      exact ⟨rfl, S.out.bel⟩
set_option maxRecDepth 100000 in
set_option maxHeartbeats 8000000 in
theorem bad (A : Option Addr) (n c : Nat) (ps : List (List UInt8)) (w : World) (hin : PagesIn w A n ps) (hf : 0 < n → ∀ b off, A = some ⟨b, off, none⟩ → b < w.heap.size) (hn : n ≤ 20) (hok : allOk (blocks ps) = false) :
    Calls Try.prog 6 #[.slice A n c] w fun e w' => e = .returned (.bool true) ∧ Below w.heap.size w w' := by
  have HL := Lib.hid hin.len
  have HZ := Lib.hid hin.size
  have S0 := Lib.hid hin
  have HF := Lib.hid hf
  have HOk := Lib.hid hok
  have hnI : (n : Int) ≤ 20 := by omega
  clear hin hf hok
  go_enter Try.func6, Try.ntmps6
  go_wp2_with fail
  refine (awake_any _).mono ?_
  rintro e w1 ⟨rfl, hb⟩
  have S1 := Lib.hid (And.intro (S0.out.step hb) hb)
  clear hb S0
  go_wp2_with fail
  refine (all_any A n c ps _ S1.out.1 (fun h0 b off h => Nat.lt_of_lt_of_le (HF.out h0 b off h) S1.out.2.size) (by omega)).mono ?_
  rintro e w2 he
  unfold AllGive at he
  rw [HOk.out] at he
  rw [if_neg (by decide)] at he
  obtain ⟨rfl, hb⟩ := he
  have S : Hid (LaS w A n ps none [] w2) := Lib.hid ⟨S1.out.1.step hb, ⟨fun h => by simp at h⟩, S1.out.2.trans (hb.mono S1.out.2.size)⟩
  clear hb S1 HF
  go_wp2_with fail
  go_loopw [5, 23] (fun q x wr => ∃ k : Nat, k ≤ n ∧ x = .int .i64 (k : Int) ∧ q = .int .i64 ((4 * k : Nat) : Int) ∧ Hid (LaS w A n ps none [] wr) ∧ Hid (allOk (blocks (ps.take k)) = true)) (fun _ x _ => n - (intOf x).toNat)
  case atStart => exact ⟨0, Nat.zero_le _, rfl, rfl, S, Lib.hid rfl⟩
  case round =>
    clear S
    obtain ⟨k, hk, rfl, rfl, S, HO⟩ := hrel
    rename World => wo
    by_cases hlt : k < n
    · obtain ⟨b, off, hA, hb, hc⟩ := S.out.pages.rows.cells (by rw [List.length_map, HL.out]; omega)
      obtain ⟨p, hp⟩ : ∃ p, ps[k]? = some p := ⟨_, List.getElem?_eq_getElem (by rw [HL.out]; exact hlt)⟩
      have HP := Lib.hid (hc k (byteVals p) (by rw [List.getElem?_map, hp]; rfl))
      have HPL := Lib.hid (HZ.out p (List.mem_of_getElem? hp))
      have HBL := Lib.hid (show (byteVals p).length = 64 by rw [byteVals_length, HPL.out])
      have HMore := Lib.hid (blocks_more ps k p hp)
      have HPk := Lib.hid hp
      subst hA
      have hk0 : (0 : Int) ≤ (k : Int) := by omega
      have hk1 : (k : Int) < (n : Int) := by omega
      clear hc hp hb
      go_wp2_with (first
        | ((with_reducible refine wpList_load_at pageT HP.out HBL.out rfl (.tmp 25) rfl ?_ ?_); (exact rfl))
        | ((with_reducible refine wpList_store_new (p := p) rfl (.tmp 7) (.tmp 26) rfl rfl ?_ ?_ HPL.out ?_); (exact rfl); (exact rfl); intro W2 hP hB2 hz2; have P := Lib.hid (LaP.mk (S.out.call hB2) hP); clear hP hB2 hz2 S; generalize wo.heap.size = B at P ⊢))
      go_loopw [5, 8] (fun q x wr => ∃ j : Nat, j ≤ 4 ∧ x = .int .i64 (j : Int) ∧ q = .int .i64 ((4 * k + j : Nat) : Int) ∧ Hid (LaP w (some ⟨b, off, none⟩) n ps none [] B p wr) ∧ Hid (allOk (blocks (ps.take k) ++ (slots p).take j) = true)) (fun _ x _ => 4 - (intOf x).toNat)
      case atStart => exact ⟨0, by omega, rfl, rfl, P, Lib.hid (by simpa using HO.out)⟩
      case round =>
        clear P HO
        obtain ⟨j, hj, rfl, rfl, P, HO⟩ := hrel
        by_cases hj4 : j < 4
        · have HRG := Lib.hid (fun w => refGet_any p j w HPL.out hj4)
          have HAt := Lib.hid (slots_at p j hj4)
          have HNo := Lib.hid (fun h => allOk_no ps k p HPk.out j hj4 h)
          generalize Nm.at_ p j = bk at HRG HAt HNo
          change Hid (∀ w, Calls Try.prog 17 #[pageV p, .int .i64 (j : Int)] w fun e w' => e = .returned (.tuple #[.agg (eL bk).toArray, .bool (okE bk)]) ∧ Below w.heap.size w w') at HRG
          cases hbk : okE bk with
          | true =>
            rw [hbk] at HRG
            have HO3 : Hid (allOk (blocks (ps.take k) ++ (slots p).take (j + 1)) = true) := Lib.hid (by rw [HAt.out, ← List.append_assoc, allOk_app, HO.out]; simp [allOk, hbk])
            clear hbk
            go_wp2_with (first
              | (with_reducible refine wpList_load_page P.out.page rfl (.tmp 7) rfl rfl ?_)
              | (go_at_call 17; (with_reducible refine (HRG.out _).mono ?_); rintro e w3 ⟨rfl, hb⟩; replace P := Lib.hid (P.out.call hb); clear hb)
              | ((with_reducible refine wpList_store_newrow rentT (vs := eL bk) (eL_length _) (eL_one _) rfl (.tmp 9) (.tmp 35) rfl rfl ?_ ?_ ?_); (exact rfl); (exact rfl); intro W4 hP hb hz; have V := Lib.hid (LaE.mk (P.out.call hb) hP); clear hP hb hz P; generalize w3.heap.size = E at V ⊢))
            refine wq_region (C := LaE w (some ⟨b, off, none⟩) n ps none [] B p E (eL bk)) (by kernel_rfl) V.out.drew ?_
            refine wq_take (.slice none 0 0) (by kernel_rfl) ?_ ?_
            · (intro _ _; go_simp)
            (try simp only [Act.put, List.setIfInBounds_toArray, List.set_cons_zero, List.set_cons_succ])
            refine wq_take (.int .i64 0) (by kernel_rfl) ?_ ?_
            · (intro _ _; go_simp)
            (try simp only [Act.put, List.setIfInBounds_toArray, List.set_cons_zero, List.set_cons_succ])
            refine wq_take (.bool false) (by kernel_rfl) ?_ ?_
            · (intro _ _; go_simp)
            (try simp only [Act.put, List.setIfInBounds_toArray, List.set_cons_zero, List.set_cons_succ])
            refine wq_take (.bool false) (by kernel_rfl) ?_ ?_
            · (intro _ _; go_simp)
            (try simp only [Act.put, List.setIfInBounds_toArray, List.set_cons_zero, List.set_cons_succ])
            refine wq_pass (by kernel_rfl) ?_
            (try simp only [Act.put, List.setIfInBounds_toArray, List.set_cons_zero, List.set_cons_succ])
            refine wq_pass (by kernel_rfl) ?_
            (try simp only [Act.put, List.setIfInBounds_toArray, List.set_cons_zero, List.set_cons_succ])
            refine wq_pass (by kernel_rfl) ?_
            (try simp only [Act.put, List.setIfInBounds_toArray, List.set_cons_zero, List.set_cons_succ])
            refine wq_pass (by kernel_rfl) ?_
            (try simp only [Act.put, List.setIfInBounds_toArray, List.set_cons_zero, List.set_cons_succ])
            refine wq_pass (by kernel_rfl) ?_
            (try simp only [Act.put, List.setIfInBounds_toArray, List.set_cons_zero, List.set_cons_succ])
            refine wq_pass (by kernel_rfl) ?_
            (try simp only [Act.put, List.setIfInBounds_toArray, List.set_cons_zero, List.set_cons_succ])
            refine wq_pass (by kernel_rfl) ?_
            (try simp only [Act.put, List.setIfInBounds_toArray, List.set_cons_zero, List.set_cons_succ])
            refine wq_pass (by kernel_rfl) ?_
            (try simp only [Act.put, List.setIfInBounds_toArray, List.set_cons_zero, List.set_cons_succ])
            refine wq_pass (by kernel_rfl) ?_
            (try simp only [Act.put, List.setIfInBounds_toArray, List.set_cons_zero, List.set_cons_succ])
            refine wq_pass (by kernel_rfl) ?_
            (try simp only [Act.put, List.setIfInBounds_toArray, List.set_cons_zero, List.set_cons_succ])
            refine wq_pass (by kernel_rfl) ?_
            (try simp only [Act.put, List.setIfInBounds_toArray, List.set_cons_zero, List.set_cons_succ])
            refine wq_pass (by kernel_rfl) ?_
            (try simp only [Act.put, List.setIfInBounds_toArray, List.set_cons_zero, List.set_cons_succ])
            refine wq_take (.bool false) (by kernel_rfl) ?_ ?_
            · (intro _ _; go_simp)
            (try simp only [Act.put, List.setIfInBounds_toArray, List.set_cons_zero, List.set_cons_succ])
            refine wq_nil ?_
            intro W8 hC
            have P8 := Lib.hid hC.lp
            clear hC V
            go_wp2
            go_roundw
            case rel => exact ⟨j + 1, by omega, by go_num, by go_num, P8, HO3⟩
            case measure => simp [intOf]; omega
          | false =>
            rw [hbk] at HRG
            clear hbk
            go_wp2_with (first
              | (with_reducible refine wpList_load_page P.out.page rfl (.tmp 7) rfl rfl ?_)
              | (go_at_call 17; (with_reducible refine (HRG.out _).mono ?_); rintro e w3 ⟨rfl, hb⟩; replace P := Lib.hid (P.out.call hb); clear hb)
              | ((with_reducible refine wpList_store_newrow rentT (vs := eL bk) (eL_length _) (eL_one _) rfl (.tmp 9) (.tmp 35) rfl rfl ?_ ?_ ?_); (exact rfl); (exact rfl); intro W4 hP hb hz; have V := Lib.hid (LaE.mk (P.out.call hb) hP); clear hP hb hz P; generalize w3.heap.size = E at V ⊢))
            go_ret
            exact ⟨rfl, V.out.lp.la.bel⟩
        · obtain rfl : j = 4 := by omega
          have S3 := Lib.hid P.out.la
          clear P
          have HO4 : Hid (allOk (blocks (ps.take (k + 1))) = true) := Lib.hid (by rw [HMore.out]; exact HO.out)
          clear HO
          go_wp2
          go_roundw
          case rel => exact ⟨k + 1, by omega, by go_num, by go_num, S3, HO4⟩
          case measure => simp [intOf]; omega
    · exfalso
      have e : ps.take k = ps := List.take_of_length_le (by rw [HL.out]; omega)
      have := HO.out
      rw [e, HOk.out] at this
      cases this
set_option maxRecDepth 100000 in
set_option maxHeartbeats 1000000 in
theorem many (A : Option Addr) (n c : Nat) (w : World) (hn : 20 < n) :
    Calls Try.prog 6 #[.slice A n c] w fun e w' => e = .returned (.bool true) ∧ Below w.heap.size w w' := by
  have hI : (20 : Int) < (n : Int) := by omega
  go_enter Try.func6, Try.ntmps6
  go_wp2_with fail
  refine (awake_any _).mono ?_
  rintro e w1 ⟨rfl, hb⟩
  have HB := Lib.hid hb
  clear hb
  go_wp2
  go_ret
  exact ⟨rfl, HB.out⟩
theorem walk (A : Option Addr) (n c : Nat) (ps : List (List UInt8)) (w : World) (hin : PagesIn w A n ps) :
    Calls Try.prog 6 #[.slice A n c] w fun e w' => e = .returned (.bool true) ∧ Below w.heap.size w w' := by
  by_cases hn : 20 < n
  · exact many A n c w hn
  · have hf : 0 < n → ∀ b off, A = some ⟨b, off, none⟩ → b < w.heap.size := fun h0 b off h => by
      obtain ⟨b', off', e, hlt, _⟩ := hin.rows.cells (by rw [List.length_map, hin.len]; omega)
      rw [h] at e
      injection e with e
      injection e with e1 e2
      omega
    cases hok : allOk (blocks ps) with
    | true => exact good A n c ps w hin hf (by omega) hok
    | false => exact bad A n c ps w hin hf (by omega) hok
set_option maxRecDepth 100000 in
theorem lifted (os : Os) (started : os.Started) (H : Type) (enc : TypeId × Value → H) :
    ReturnsInHanded {} Try.checked os 6 .any (Rows.slotAllSpec.pre6 enc Try.prog Try.f6 Rows.slotAllRow.domain false) (Rows.slotAllSpec.post enc Try.prog Try.f6 false true false false) := by
  refine returnsInHanded_of_change (C := Try.checked) own started (by kernel_rfl) Try.func6
    (ChangeSpec.witness6 (enc := enc) (C := Try.checked) false ⟨#[], #[.slice none 0 0], []⟩ 8 (by kernel_rfl) (by kernel_rfl) (by kernel_rfl) (by kernel_rfl)) ?_
  intro W base args ds gs before hval0 hW hcnd _
  have hval : ∀ (j : Nat) t v, Try.f6.params[j]? = some t → args[j]? = some v → Value.okWide Try.prog W .any base t v := hval0
  have hW' := hW
  obtain ⟨p, q, hA0, hV, rfl, hfz, hnd⟩ := hW
  have hA : DataW.TrodAll enc Try.prog W 0 (fun _ => true) true Try.f6.params.toList args.toList ds p := hA0
  rw [Try.params6] at hA hval
  obtain ⟨v0, vs0, d0, ds0, p0, q0, hargs, rfl, rfl, h0, r0⟩ := trodAll_cons hA
  obtain ⟨rfl, rfl, rfl⟩ := trodAll_nil r0
  obtain rfl : args = #[v0] := by cases args; simp_all
  obtain ⟨rfl, rfl⟩ := trodVars_none hV
  have k0 := h0
  have lt0 : ∀ x ∈ p0, x.block < W.heap.size := by obtain ⟨m, hm⟩ := k0; exact DataW.trod_lt m _ _ _ hm
  obtain ⟨A, n, c, ps, rfl, hin⟩ := open_pages (hval 0 43 v0 rfl rfl) h0
  clear hA0 hval0
  refine (walk A n c ps W hin).mono fun e W' ⟨he, bel⟩ => ?_
  subst he
  exact ⟨_, rfl, _, _, _, [], _, [], hW', trodAll_mk1 (shut_bool Try.underlying4 _), (trodAll_cons_mk (Below.trod laidOut (by kernel_rfl) (of_decide_eq_true (by kernel_rfl)) k0 bel lt0) trodAll_mk0), rfl, bel.frame _, fun h => by cases h⟩
theorem over : Rows.slotAllRow.holds Try.pinned (OpenSpec.ofChange Rows.slotAllSpec) :=
  OpenClaim.holds_of_wide 6 Try.f6 rfl rfl rfl rfl rfl rfl rfl ⟨rfl, rfl, rfl, rfl, rfl⟩ rfl rfl rfl rfl rfl (by kernel_rfl) Try.func6 (by kernel_rfl)
    (of_decide_eq_true (by kernel_rfl)) (by unfold Func.isWrapper; first | (rw [if_pos (by decide +kernel)]; kernel_rfl) | (rw [if_neg (by decide +kernel)]; exact ⟨rfl, rfl⟩))
    (fun os started H enc _ => lifted os started H enc)

/-- THE STATEMENT -/
theorem proved : Rows.SlotAllSaid := over
#print axioms proved
end Go.Proofs.Ytejedkdlehgnpaa.slotAll
