/-
  The document's Same: two lists of entries held against each other.
-/
import Derived.Test.YtkomehplcacbcaaZeq
import Derived.BigQuiet
namespace Go.Proofs.Ytkomehplcacbcaa
open Go.RowKit Go.Maps

theorem wpQuiet_at {ops : Array Oper} {rest : List Oper} {op : Oper} {a : Act} {Q : Act → Prop} {C : World → Prop} {t : TypeId} {n b o : Nat} {vs : List Value} (ht : RowT t n) (hl : vs.length = n) (x : Operand) (ho : op.op = .load t x) (hx : a.eval x = .pointer (some ⟨b, o, none⟩)) (hw : Region.wanted op (yielded ops a.tmps) = true)
    (hC : ∀ w, C w → w.rangeAt b o vs) (h : Wq ops C Q rest (a.put op.dst (.agg vs.toArray))) : Wq ops C Q (op :: rest) a := by
  refine wq_take (.agg vs.toArray) hw (fun w hc => ?_) h
  obtain ⟨d, hd, hr⟩ := ht.row
  unfold execOp
  have := run_loadVar_mid (P := Try.prog) w b o t vs d (hC w hc) hd hr (by rw [ht.info, hl])
  simp only [ho, hx, Instr.loadAt, Instr.sureAddr, Sem.run_bind, Sem.run_pure, Result.andThen_ok, this]

/-! ### Same -/
def SameC (w0 : World) (A B : Option Addr) (n : Nat) (xs ys : List Z.En) (W : World) : Prop := EnsAt W A n xs ∧ EnsAt W B n ys ∧ Below w0.heap.size w0 W
theorem SameC.call {w0 : World} {A B : Option Addr} {n : Nat} {xs ys : List Z.En} {W W' : World} (k : SameC w0 A B n xs ys W) (hb : Below W.heap.size W W') : SameC w0 A B n xs ys W' := ⟨k.1.step hb, k.2.1.step hb, k.2.2.trans (hb.mono k.2.2.size)⟩
theorem take_same (xs ys : List Z.En) (k : Nat) (x y : Z.En) (hx : xs[k]? = some x) (hy : ys[k]? = some y) (h : xs.take k = ys.take k) (e : x = y) : xs.take (k + 1) = ys.take (k + 1) := by
  obtain ⟨hk, he⟩ := List.getElem?_eq_some_iff.1 hx
  obtain ⟨hk2, he2⟩ := List.getElem?_eq_some_iff.1 hy
  rw [List.take_succ_eq_append_getElem hk, List.take_succ_eq_append_getElem hk2, he, he2, h, e]
theorem same_no (xs ys : List Z.En) (k : Nat) (x y : Z.En) (hx : xs[k]? = some x) (hy : ys[k]? = some y) (e : x ≠ y) : xs ≠ ys := fun h => by
  rw [h, hy] at hx
  injection hx with hx
  exact e hx.symm
set_option maxRecDepth 100000 in
set_option maxHeartbeats 2000000 in
theorem rsame_any (A B : Option Addr) (n m c d : Nat) (xs ys : List Z.En) (w : World) (h : EnsAt w A n xs) (g : EnsAt w B m ys) (hn : n ≤ 1000) (hm : m ≤ 1000) :
    Calls Try.prog 12 #[.slice A n c, .slice B m d] w fun e w' => e = .returned (.bool (decide (xs = ys))) ∧ Below w.heap.size w w' := by
  by_cases hnm : n = m
  · subst hnm
    have S0 : Hid (SameC w A B n xs ys w) := Lib.hid ⟨h, g, Below.refl _ _⟩
    have HL := Lib.hid h.len
    have HG := Lib.hid g.len
    clear h g hm
    go_enter Try.func12, Try.ntmps12
    go_wp2
    go_loopw [5] (fun i wr => ∃ k : Nat, k ≤ n ∧ i = .int .i64 (k : Int) ∧ Hid (xs.take k = ys.take k) ∧ Hid (SameC w A B n xs ys wr)) (fun i _ => n - (intOf i).toNat)
    case atStart => exact ⟨0, Nat.zero_le _, rfl, Lib.hid rfl, S0⟩
    case round =>
      clear S0
      obtain ⟨k, hk, rfl, HT, S⟩ := hrel
      by_cases hlt : k < n
      · obtain ⟨b, off, x, hA, hb, hx, hc⟩ := S.out.1.get k hlt
        obtain ⟨b2, off2, y, hB, hb2, hy, hc2⟩ := S.out.2.1.get k hlt
        subst hA hB
        have HX := Lib.hid hx
        have HY := Lib.hid hy
        clear hx hy hc hc2 hb hb2
        have HC1 : Hid (∀ w', SameC w (some ⟨b, off, none⟩) (some ⟨b2, off2, none⟩) n xs ys w' → w'.rangeAt b (off + k * 5) (enL x)) := Lib.hid (fun w' hS => by
          obtain ⟨b', o', x', e1, _, e3, e4⟩ := hS.1.get k hlt
          injection e1 with e1; injection e1 with e1 e2
          rw [HX.out] at e3; injection e3 with e3
          subst e1 e2 e3
          exact e4)
        have HC2 : Hid (∀ w', SameC w (some ⟨b, off, none⟩) (some ⟨b2, off2, none⟩) n xs ys w' → w'.rangeAt b2 (off2 + k * 5) (enL y)) := Lib.hid (fun w' hS => by
          obtain ⟨b', o', x', e1, _, e3, e4⟩ := hS.2.1.get k hlt
          injection e1 with e1; injection e1 with e1 e2
          rw [HY.out] at e3; injection e3 with e3
          subst e1 e2 e3
          exact e4)
        have hk0 : (0 : Int) ≤ (k : Int) := by omega
        have hk1 : (k : Int) < (n : Int) := by omega
        obtain ⟨q, hq⟩ : ∃ q, q = decide (x = y) := ⟨_, rfl⟩
        have HQ := Lib.hid hq
        clear hq
        go_upto_region 6 with fail
        refine wq_region (C := SameC w (some ⟨b, off, none⟩) (some ⟨b2, off2, none⟩) n xs ys) (by kernel_rfl) (S.out.call (Below.refl _ _).drew) ?_
        refine wq_take (.slice (some ⟨b, off, none⟩) n c) (by kernel_rfl) ?_ ?_
        · (intro w' hS; go_simp)
        (try simp only [Act.put, List.setIfInBounds_toArray, List.set_cons_zero, List.set_cons_succ])
        refine wq_take (.int .i64 (k : Int)) (by kernel_rfl) ?_ ?_
        · (intro w' hS; go_simp)
        (try simp only [Act.put, List.setIfInBounds_toArray, List.set_cons_zero, List.set_cons_succ])
        refine wq_take (.pointer (some ⟨b, off + k * 5, none⟩)) (by kernel_rfl) ?_ ?_
        · (intro w' hS; go_simp)
        (try simp only [Act.put, List.setIfInBounds_toArray, List.set_cons_zero, List.set_cons_succ])
        refine wpQuiet_at renT (enL_length x) (.tmp 19) rfl rfl (by kernel_rfl) (HC1.out) ?_
        (try simp only [Act.put, List.setIfInBounds_toArray, List.set_cons_zero, List.set_cons_succ])
        refine wq_take (.slice (some ⟨b2, off2, none⟩) n d) (by kernel_rfl) ?_ ?_
        · (intro w' hS; go_simp)
        (try simp only [Act.put, List.setIfInBounds_toArray, List.set_cons_zero, List.set_cons_succ])
        refine wq_take (.int .i64 (k : Int)) (by kernel_rfl) ?_ ?_
        · (intro w' hS; go_simp)
        (try simp only [Act.put, List.setIfInBounds_toArray, List.set_cons_zero, List.set_cons_succ])
        refine wq_take (.pointer (some ⟨b2, off2 + k * 5, none⟩)) (by kernel_rfl) ?_ ?_
        · (intro w' hS; go_simp)
        (try simp only [Act.put, List.setIfInBounds_toArray, List.set_cons_zero, List.set_cons_succ])
        refine wpQuiet_at renT (enL_length y) (.tmp 23) rfl rfl (by kernel_rfl) (HC2.out) ?_
        (try simp only [Act.put, List.setIfInBounds_toArray, List.set_cons_zero, List.set_cons_succ])
        refine wq_take (.bool (!q)) (by kernel_rfl) ?_ ?_
        · (intro w' hS; rw [HQ.out]; exact run_held rfl rfl rfl (run_ngd_en _ _ x y w') (run_neq_en w' x y))
        (try simp only [Act.put, List.setIfInBounds_toArray, List.set_cons_zero, List.set_cons_succ])
        refine wq_nil ?_
        clear S
        intro w2 S2
        have S := Lib.hid S2
        clear S2
        cases q with
        | true =>
          have HN := Lib.hid (take_same xs ys k x y HX.out HY.out HT.out (of_decide_eq_true HQ.out.symm))
          go_wp2
          go_roundw
          case rel => exact ⟨k + 1, by omega, by go_num, HN, S⟩
          case measure => (simp [intOf] <;> omega)
        | false =>
          have HN := Lib.hid (same_no xs ys k x y HX.out HY.out (of_decide_eq_false HQ.out.symm))
          go_wp2
          go_ret
          exact ⟨ret_bool (decide_eq_false HN.out).symm, S.out.2.2⟩
      · obtain rfl : k = n := by omega
        have HN : Hid (xs = ys) := Lib.hid (by
          have := HT.out
          rwa [List.take_of_length_le (by rw [HL.out]; exact Nat.le_refl _), List.take_of_length_le (by rw [HG.out]; exact Nat.le_refl _)] at this)
        clear HT hlt
        go_wp2
        go_ret
        exact ⟨ret_bool (decide_eq_true HN.out).symm, S.out.2.2⟩
  · have HN : Hid (xs ≠ ys) := Lib.hid (fun e => hnm (by rw [← h.len, ← g.len, e]))
    clear h g
    have hd : ((n : Int) != (m : Int)) = true := by simp; omega
    have hd2 : ¬ ((n : Int) = (m : Int)) := by omega
    clear hnm
    go_enter Try.func12, Try.ntmps12
    go_wp2
    go_ret
    exact ⟨ret_bool (decide_eq_false HN.out).symm, Below.refl _ _⟩
end Go.Proofs.Ytkomehplcacbcaa
