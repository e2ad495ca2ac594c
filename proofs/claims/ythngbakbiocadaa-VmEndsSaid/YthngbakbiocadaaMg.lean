/-
  The document's Put in one; the law's Plain; the document's Same.
-/
import Derived.Test.YthngbakbiocadaaMe
import Derived.Test.YthngbakbiocadaaMf
import Derived.BigQuiet

namespace Go.Proofs.Ythngbakbiocadaa
set_option maxRecDepth 100000
open Go.RowKit Go.Maps

theorem rput_any (lru : Bool) (base b : Nat) (sv : Value) (room : Nat) (l : List Z.En) (x : Z.En) (w : World) (h : MpAt 59 (.bool lru) w base b sv room l) (hn : l.length ≤ room) (hr1 : 1 ≤ room) (hr : room ≤ 1000) (hbase : base ≤ w.heap.size) :
    Calls Try.prog 26 #[.pointer (some ⟨b, 0, none⟩), .int .i64 x.key, .agg #[.int .i64 x.a, .int .i64 x.b, .int .i64 x.c, .int .i64 x.d]] w fun e w' => e = .returned (.int .i64 (Z.putC lru room l x)) ∧ ∃ sv', MpTo 59 (.bool lru) w base b sv room (Z.putI lru room l x) w' sv' := by
  unfold Z.putC Z.putI
  cases hp : Z.pos x.key l with
  | some i =>
    cases lru with
    | false => exact rput_there_hash base b sv room l x i hp w h (by omega) hbase
    | true => exact rput_there_lru base b sv room l x i hp w h (by omega) hbase
  | none =>
    by_cases hf : l.length = room
    · simp only [hf, if_true]
      cases lru with
      | false => exact rput_hash_full base b sv room l x hp hf hr1 w h (by omega) hbase
      | true => exact rput_lru_full base b sv room l x hp hf hr1 w h (by omega) hbase
    · simp only [hf, if_false]
      cases lru with
      | false => exact rput_hash_room base b sv room l x hp (by omega) hr1 w h (by omega) hbase
      | true => exact rput_lru_room base b sv room l x hp (by omega) hr1 w h (by omega) hbase
/-! ### Plain -/
structure GrS (w0 : World) (t : TypeId) (l : Value) (xs : List Z.En) (W : World) : Prop where
  own : W.ownsRow w0.heap.size t 5 l xs.length (cellsE xs)
  bel : Below w0.heap.size w0 W
theorem grS_start (w : World) (t : TypeId) : GrS w t (.slice none 0 0) [] w := ⟨⟨rfl, Or.inl ⟨rfl, rfl⟩⟩, Below.refl _ _⟩
theorem GrS.call {w0 : World} {t : TypeId} {l : Value} {xs : List Z.En} {W W' : World} (k : GrS w0 t l xs W) (hb : Below W.heap.size W W') : GrS w0 t l xs W' := ⟨owns_below k.own hb, k.bel.trans (hb.mono k.bel.size)⟩
theorem GrS.grow {w0 : World} {t : TypeId} {l l' : Value} {xs : List Z.En} {x : Z.En} {W W' : World} (k : GrS w0 t l xs W) (hg : W.grownBy W' l.ownBlock) (hown : W'.ownsRow w0.heap.size t 5 l' (xs.length + 1) (cellsE xs ++ enL x)) : GrS w0 t l' (xs ++ [x]) W' where
  own := by
    rw [cellsE_snoc, List.length_append]
    exact hown
  bel := k.bel.grown hg k.bel.size (fun j hj => (k.own.lt j hj).1)
def PlainGive (n : Nat) (xs : List Z.En) (w : World) (e : Ending) (w' : World) : Prop := ∃ A c, e = .returned (.slice A n c) ∧ EnsAt w' A n xs ∧ Below w.heap.size w w'
theorem give {t : TypeId} {w w' : World} {A : Option Addr} {n c : Nat} {xs : List Z.En} (S : GrS w t (.slice A n c) xs w') (hn : n = xs.length) : PlainGive n xs w (.returned (.slice A n c)) w' := ⟨A, c, rfl, own_ens (by have := S.own; rw [← hn] at this; exact this) hn, S.bel⟩
theorem wpList_oneE {ops : Array Oper} {rest : List Oper} {op : Oper} {a : Act} {Q : Exit → Act → World → Prop} {w : World} {x : Z.En} (hgd : op.guard = none) (y : Operand) (ho : op.op = .buildSlice 49 1 #[(0, y)]) (hy : a.eval y = .agg (enL x).toArray)
    (h : wpList Try.prog ops Q rest (a.put op.dst (.slice (some ⟨w.heap.size, 0, none⟩) 1 1)) (w.alloc (.cells (enL x).toArray 59))) : wpList Try.prog ops Q (op :: rest) a w :=
  wpList_plain hgd fun _ hK => by
    unfold Oper.wp
    rw [exec_oneE (Or.inr ⟨rfl, rfl⟩) y ho hy]
    exact hK _ _ h
theorem wpList_build_en {ops : Array Oper} {rest : List Oper} {op : Oper} {a : Act} {Q : Exit → Act → World → Prop} {w : World} {x : Z.En} (hgd : op.guard = none) (y z : Operand) (ho : op.op = .build 59 #[(0, y), (1, z)]) (hy : a.eval y = .int .i64 x.key) (hz : a.eval z = .agg (wordsL x).toArray)
    (h : wpList Try.prog ops Q rest (a.put op.dst (.agg (enL x).toArray)) w) : wpList Try.prog ops Q (op :: rest) a w :=
  wpList_plain hgd fun _ hK => by
    have hr : (execOp a.eval op).run Try.prog w = .ok (.value (.agg (enL x).toArray)) w := by
      unfold execOp
      simp only [ho, hy, hz, List.map_toArray, List.map_cons, List.map_nil]
      unfold enL wordsL
      go_simp
    unfold Oper.wp
    rw [hr]
    exact hK _ _ h
theorem RowAt.words {w : World} {b : Nat} {x : Z.En} (h : RowAt w b (enL x)) : w.rangeAt b 1 (wordsL x) := by
  have := words_range (g := b) (o := 0) h.range
  exact this
set_option maxRecDepth 100000 in
set_option maxHeartbeats 2000000 in
theorem plain_any (A : Option Addr) (n c : Nat) (xs : List Z.En) (w : World) (h : EnsAt w A n xs) (hn : n ≤ 1000) :
    Calls Try.prog 16 #[.slice A n c] w (PlainGive n xs w) := by
  have H0 := Lib.hid h
  have HL := Lib.hid h.len
  have S0 := Lib.hid (grS_start w 59)
  obtain ⟨i0, hi0, hz0, hs0, hb0⟩ := info_parts info_ren
  have HI0 := Lib.hid hi0
  have HZ0 := Lib.hid hz0
  have HS0 := Lib.hid hs0
  have HB0 := Lib.hid hb0
  clear h hi0 hz0 hs0 hb0
  go_enter Try.func16, Try.ntmps16
  go_wp2
  go_loopw [3, 8] (fun l i wr => ∃ (k : Nat) (A' : Option Addr) (c' : Nat), k ≤ n ∧ i = .int .i64 (k : Int) ∧ l = .slice A' k c' ∧ Hid (GrS w 59 (.slice A' k c') (xs.take k) wr)) (fun _ i _ => n - (intOf i).toNat)
  case atStart => exact ⟨0, none, 0, Nat.zero_le _, rfl, rfl, S0⟩
  case round =>
    clear S0
    obtain ⟨k, A', c', hk, rfl, rfl, S⟩ := hrel
    rename World => wo
    by_cases hlt : k < n
    · obtain ⟨b, off, x, hA, hb, hx, hc⟩ := (H0.out.step (S.out.bel)).get k hlt
      subst hA
      have HC := Lib.hid hc
      have HT : Hid (xs.take (k + 1) = xs.take k ++ [x]) := Lib.hid (by obtain ⟨h1, h2⟩ := List.getElem?_eq_some_iff.1 hx; rw [List.take_succ_eq_append_getElem h1, h2])
      have HM : Hid (k = (xs.take k).length) := Lib.hid (by rw [List.length_take, HL.out]; omega)
      have hk0 : (0 : Int) ≤ (k : Int) := by omega
      have hk1 : (k : Int) < (n : Int) := by omega
      clear hx hc hb
      generalize xs.take k = ys at S HT HM
      go_wp2_with (first
        | ((with_reducible refine wpList_load_at enT HC.out (enL_length _) rfl (.tmp 10) rfl ?_ ?_); (exact rfl))
        | ((with_reducible refine wpList_store_newrow enT (vs := enL x) (enL_length _) (enL_one _) rfl (.tmp 5) (.tmp 11) rfl rfl ?_ ?_ ?_); (exact rfl); (exact rfl); intro W4 hP hb hz; have R := Lib.hid hP; have hkc := hP.cell 0 _ rfl; replace S := Lib.hid (S.out.call hb); clear hP hb hz; generalize wo.heap.size = G at R hkc ⊢)
        | ((with_reducible refine wpList_load_at valT (RowAt.words R.out) (wordsL_length _) rfl (.tmp 15) rfl ?_ ?_); (exact rfl))
        | ((with_reducible refine wpList_build_en (x := x) rfl (.tmp 14) (.tmp 16) rfl ?_ ?_ ?_); (exact rfl); (exact rfl))
        | ((with_reducible refine wpList_oneE (x := x) rfl (.tmp 17) rfl ?_ ?_); (exact rfl); have HNW := Lib.hid (cell_new W4 (enL x) 59); have HBel : Hid (Below W4.heap.size W4 (W4.alloc (.cells (enL x).toArray 59))) := Lib.hid ((Below.refl _ _).alloc (Nat.le_refl _) _); replace S := Lib.hid (S.out.call HBel.out); have HSZ : Hid (w.heap.size ≤ (W4.alloc (.cells (enL x).toArray 59)).heap.size) := Lib.hid S.out.bel.size; have HOwn := Lib.hid S.out.own; rw [← HM.out] at HOwn; clear HBel hkc; generalize W4.heap.size = E at HNW ⊢; generalize W4.alloc (.cells (enL x).toArray 59) = W5 at HNW S HSZ HOwn ⊢)
        | (at_builtin; go_must (refine wpList_append_own_at _ rfl (.tmp 12) (.tmp 18) 49 rfl w.heap.size 59 i0 _ 5 40 Try.underlying49 HI0.out HZ0.out HS0.out HB0.out rfl (by omega) _ k _ rfl HOwn.out ⟨E, 0, none⟩ 1 1 (enL x) rfl rfl HNW.out (enL_one _) (by unfold maxLen; omega) (by omega) HSZ.out ?_); intro v' w5 hown' hgrow hnil hloc; obtain ⟨A', c', rfl⟩ := owns_slice hown'))
      have S3 := Lib.hid (S.out.grow hgrow (x := x) (by rw [← HM.out]; exact hown'))
      rw [← HT.out] at S3
      clear hown' hgrow hnil hloc S
      go_roundw
      case rel => exact ⟨k + 1, A', c', by omega, by go_num, rfl, S3⟩
      case measure => (simp [intOf] <;> omega)
    · obtain rfl : k = n := by omega
      have e : xs.take k = xs := List.take_of_length_le (by rw [HL.out]; exact Nat.le_refl _)
      rw [e] at S
      have HF := Lib.hid (give S.out HL.out.symm)
      clear e S hlt
      go_wp2
      go_ret
      exact HF.out
end Go.Proofs.Ythngbakbiocadaa

/-
  The document's Same: two lists of entries held against each other.
-/
namespace Go.Proofs.Ythngbakbiocadaa
set_option maxRecDepth 100000
open Go.RowKit Go.Maps

theorem wpQuiet_at {ops : Array Oper} {rest : List Oper} {op : Oper} {a : Act} {Q : Act → Prop} {C : World → Prop} {t : TypeId} {n b o : Nat} {vs : List Value} (ht : RowT t n) (hl : vs.length = n) (x : Operand) (ho : op.op = .load t x) (hx : a.eval x = .pointer (some ⟨b, o, none⟩)) (hw : Region.wanted op (yielded ops a.tmps) = true)
    (hC : ∀ w, C w → w.rangeAt b o vs) (h : Wq ops C Q rest (a.put op.dst (.agg vs.toArray))) : Wq ops C Q (op :: rest) a := by
  refine wq_take (.agg vs.toArray) hw (fun w hc => ?_) h
  obtain ⟨d, hd, hr⟩ := ht.row
  unfold execOp
  have := run_loadVar_mid (P := Try.prog) w b o t vs d (hC w hc) hd hr (by rw [ht.info, hl])
  simp only [ho, hx, Instr.loadAt, Instr.sureAddr, Sem.run_bind, Sem.run_pure, Result.andThen_ok, this]

/-! ### Same -/
def SameC (w0 : World) (A B : Option Addr) (n : Nat) (xs ys : List Z.En) (W : World) : Prop := EnsAt W A n xs ∧ EnsAt W B n ys ∧ Below w0.heap.size w0 W
theorem SameC.call {w0 : World} {A B : Option Addr} {n : Nat} {xs ys : List Z.En} {W W' : World} (k : SameC w0 A B n xs ys W) (hb : Below W.heap.size W W') : SameC w0 A B n xs ys W' := ⟨k.1.step hb, k.2.1.step hb, k.2.2.trans (hb.mono k.2.2.size)⟩
theorem take_same (xs ys : List Z.En) (k : Nat) (x y : Z.En) (hx : xs[k]? = some x) (hy : ys[k]? = some y) (h : xs.take k = ys.take k) (e : x = y) : xs.take (k + 1) = ys.take (k + 1) := by
  obtain ⟨hk, he⟩ := List.getElem?_eq_some_iff.1 hx
  obtain ⟨hk2, he2⟩ := List.getElem?_eq_some_iff.1 hy
  rw [List.take_succ_eq_append_getElem hk, List.take_succ_eq_append_getElem hk2, he, he2, h, e]
theorem same_no (xs ys : List Z.En) (k : Nat) (x y : Z.En) (hx : xs[k]? = some x) (hy : ys[k]? = some y) (e : x ≠ y) : xs ≠ ys := fun h => by
  rw [h, hy] at hx
  injection hx with hx
  exact e hx.symm
set_option maxRecDepth 100000 in
set_option maxHeartbeats 2000000 in
theorem rsame_any (A B : Option Addr) (n m c d : Nat) (xs ys : List Z.En) (w : World) (h : EnsAt w A n xs) (g : EnsAt w B m ys) (hn : n ≤ 1000) (hm : m ≤ 1000) :
    Calls Try.prog 15 #[.slice A n c, .slice B m d] w fun e w' => e = .returned (.bool (decide (xs = ys))) ∧ Below w.heap.size w w' := by
  by_cases hnm : n = m
  · subst hnm
    have S0 : Hid (SameC w A B n xs ys w) := Lib.hid ⟨h, g, Below.refl _ _⟩
    have HL := Lib.hid h.len
    have HG := Lib.hid g.len
    clear h g hm
    go_enter Try.func15, Try.ntmps15
    go_wp2
    go_loopw [5] (fun i wr => ∃ k : Nat, k ≤ n ∧ i = .int .i64 (k : Int) ∧ Hid (xs.take k = ys.take k) ∧ Hid (SameC w A B n xs ys wr)) (fun i _ => n - (intOf i).toNat)
    case atStart => exact ⟨0, Nat.zero_le _, rfl, Lib.hid rfl, S0⟩
    case round =>
      clear S0
      obtain ⟨k, hk, rfl, HT, S⟩ := hrel
      by_cases hlt : k < n
      · obtain ⟨b, off, x, hA, hb, hx, hc⟩ := S.out.1.get k hlt
        obtain ⟨b2, off2, y, hB, hb2, hy, hc2⟩ := S.out.2.1.get k hlt
        subst hA hB
        have HX := Lib.hid hx
        have HY := Lib.hid hy
        clear hx hy hc hc2 hb hb2
        have HC1 : Hid (∀ w', SameC w (some ⟨b, off, none⟩) (some ⟨b2, off2, none⟩) n xs ys w' → w'.rangeAt b (off + k * 5) (enL x)) := Lib.hid (fun w' hS => by
          obtain ⟨b', o', x', e1, _, e3, e4⟩ := hS.1.get k hlt
          injection e1 with e1; injection e1 with e1 e2
          rw [HX.out] at e3; injection e3 with e3
          subst e1 e2 e3
          exact e4)
        have HC2 : Hid (∀ w', SameC w (some ⟨b, off, none⟩) (some ⟨b2, off2, none⟩) n xs ys w' → w'.rangeAt b2 (off2 + k * 5) (enL y)) := Lib.hid (fun w' hS => by
          obtain ⟨b', o', x', e1, _, e3, e4⟩ := hS.2.1.get k hlt
          injection e1 with e1; injection e1 with e1 e2
          rw [HY.out] at e3; injection e3 with e3
          subst e1 e2 e3
          exact e4)
        have hk0 : (0 : Int) ≤ (k : Int) := by omega
        have hk1 : (k : Int) < (n : Int) := by omega
        obtain ⟨q, hq⟩ : ∃ q, q = decide (x = y) := ⟨_, rfl⟩
        have HQ := Lib.hid hq
        clear hq
        go_upto_region 6 with fail
        refine wq_region (C := SameC w (some ⟨b, off, none⟩) (some ⟨b2, off2, none⟩) n xs ys) (by kernel_rfl) (S.out.call (Below.refl _ _).drew) ?_
        refine wq_take (.slice (some ⟨b, off, none⟩) n c) (by kernel_rfl) ?_ ?_
        · (intro w' hS; go_simp)
        (try simp only [Act.put, List.setIfInBounds_toArray, List.set_cons_zero, List.set_cons_succ])
        refine wq_take (.int .i64 (k : Int)) (by kernel_rfl) ?_ ?_
        · (intro w' hS; go_simp)
        (try simp only [Act.put, List.setIfInBounds_toArray, List.set_cons_zero, List.set_cons_succ])
        refine wq_take (.pointer (some ⟨b, off + k * 5, none⟩)) (by kernel_rfl) ?_ ?_
        · (intro w' hS; go_simp)
        (try simp only [Act.put, List.setIfInBounds_toArray, List.set_cons_zero, List.set_cons_succ])
        refine wpQuiet_at renT (enL_length x) (.tmp 19) rfl rfl (by kernel_rfl) (HC1.out) ?_
        (try simp only [Act.put, List.setIfInBounds_toArray, List.set_cons_zero, List.set_cons_succ])
        refine wq_take (.slice (some ⟨b2, off2, none⟩) n d) (by kernel_rfl) ?_ ?_
        · (intro w' hS; go_simp)
        (try simp only [Act.put, List.setIfInBounds_toArray, List.set_cons_zero, List.set_cons_succ])
        refine wq_take (.int .i64 (k : Int)) (by kernel_rfl) ?_ ?_
        · (intro w' hS; go_simp)
        (try simp only [Act.put, List.setIfInBounds_toArray, List.set_cons_zero, List.set_cons_succ])
        refine wq_take (.pointer (some ⟨b2, off2 + k * 5, none⟩)) (by kernel_rfl) ?_ ?_
        · (intro w' hS; go_simp)
        (try simp only [Act.put, List.setIfInBounds_toArray, List.set_cons_zero, List.set_cons_succ])
        refine wpQuiet_at renT (enL_length y) (.tmp 23) rfl rfl (by kernel_rfl) (HC2.out) ?_
        (try simp only [Act.put, List.setIfInBounds_toArray, List.set_cons_zero, List.set_cons_succ])
        refine wq_take (.bool (!q)) (by kernel_rfl) ?_ ?_
        · (intro w' hS; rw [HQ.out]; exact run_held rfl rfl rfl (run_ngd_en _ _ x y w') (run_neq_en w' x y))
        (try simp only [Act.put, List.setIfInBounds_toArray, List.set_cons_zero, List.set_cons_succ])
        refine wq_nil ?_
        clear S
        intro w2 S2
        have S := Lib.hid S2
        clear S2
        cases q with
        | true =>
          have HN := Lib.hid (take_same xs ys k x y HX.out HY.out HT.out (of_decide_eq_true HQ.out.symm))
          go_wp2
          go_roundw
          case rel => exact ⟨k + 1, by omega, by go_num, HN, S⟩
          case measure => (simp [intOf] <;> omega)
        | false =>
          have HN := Lib.hid (same_no xs ys k x y HX.out HY.out (of_decide_eq_false HQ.out.symm))
          go_wp2
          go_ret
          exact ⟨ret_bool (decide_eq_false HN.out).symm, S.out.2.2⟩
      · obtain rfl : k = n := by omega
        have HN : Hid (xs = ys) := Lib.hid (by
          have := HT.out
          rwa [List.take_of_length_le (by rw [HL.out]; exact Nat.le_refl _), List.take_of_length_le (by rw [HG.out]; exact Nat.le_refl _)] at this)
        clear HT hlt
        go_wp2
        go_ret
        exact ⟨ret_bool (decide_eq_true HN.out).symm, S.out.2.2⟩
  · have HN : Hid (xs ≠ ys) := Lib.hid (fun e => hnm (by rw [← h.len, ← g.len, e]))
    clear h g
    have hd : ((n : Int) != (m : Int)) = true := by simp; omega
    have hd2 : ¬ ((n : Int) = (m : Int)) := by omega
    clear hnm
    go_enter Try.func15, Try.ntmps15
    go_wp2
    go_ret
    exact ⟨ret_bool (decide_eq_false HN.out).symm, Below.refl _ _⟩
end Go.Proofs.Ythngbakbiocadaa

/-
  Many maps at once, none of which lies in another's memory; rows of pointers to them.
-/
namespace Go.Proofs.Ythngbakbiocadaa
set_option maxRecDepth 100000
open Go.RowKit Go.Maps

structure Mp where
  et : TypeId
  hd : Value
  b : Nat
  sv : Value
  room : Nat
  l : List Z.En
def Mp.At (m : Mp) (W : World) (base : Nat) : Prop := MpAt m.et m.hd W base m.b m.sv m.room m.l
def Mp.foot (m : Mp) (k : Nat) : Prop := Foot m.b m.sv k
structure Ms (base : Nat) (R : Nat → Prop) (ms : List Mp) (W : World) : Prop where
  each : ∀ (i : Nat) (m : Mp), ms[i]? = some m → m.At W base
  apart : ∀ (i j : Nat) (m q : Mp), i ≠ j → ms[i]? = some m → ms[j]? = some q → ∀ k, m.foot k → ¬ q.foot k
  off : ∀ (i : Nat) (m : Mp), ms[i]? = some m → ∀ k, m.foot k → ¬ R k
  low : ∀ k, R k → k < W.heap.size
theorem Ms.call {base : Nat} {R : Nat → Prop} {ms : List Mp} {W W' : World} (h : Ms base R ms W) (hb : Below W.heap.size W W') : Ms base R ms W' :=
  ⟨fun i m hm => MpAt.step (h.each i m hm) hb, h.apart, h.off, fun k hk => Nat.lt_of_lt_of_le (h.low k hk) hb.size⟩
theorem Ms.sub {base : Nat} {R R' : Nat → Prop} {ms : List Mp} {W : World} (h : Ms base R ms W) (hs : ∀ k, R' k → R k) : Ms base R' ms W :=
  ⟨h.each, h.apart, fun i m hm k hk hr => h.off i m hm k hk (hs k hr), fun k hk => h.low k (hs k hk)⟩
theorem Ms.nil (base : Nat) (W : World) : Ms base (fun _ => False) [] W := ⟨fun i m h => by simp at h, fun i j m q _ h => by simp at h, fun i m h => by simp at h, fun k h => h.elim⟩
theorem Ms.turn {base : Nat} {R : Nat → Prop} {ms : List Mp} {W W' : World} (h : Ms base R ms W) (i : Nat) (m : Mp) (hm : ms[i]? = some m) {sv' : Value} {l' : List Z.En} (hto : MpTo m.et m.hd W base m.b m.sv m.room l' W' sv') :
    Ms base R (ms.set i ⟨m.et, m.hd, m.b, sv', m.room, l'⟩) W' := by
  have hi := (List.getElem?_eq_some_iff.1 hm).1
  have hget : ∀ (j : Nat) (q : Mp), (ms.set i ⟨m.et, m.hd, m.b, sv', m.room, l'⟩)[j]? = some q → (j = i ∧ q = ⟨m.et, m.hd, m.b, sv', m.room, l'⟩) ∨ (j ≠ i ∧ ms[j]? = some q) := by
    intro j q hq
    by_cases e : i = j
    · subst e
      rw [List.getElem?_set_self hi] at hq
      injection hq with hq
      exact Or.inl ⟨rfl, hq.symm⟩
    · rw [List.getElem?_set_ne e] at hq
      exact Or.inr ⟨fun q => e q.symm, hq⟩
  have hfoot : ∀ k, Foot m.b sv' k → m.foot k ∨ W.heap.size ≤ k := by
    intro k hk
    rcases hk with e | e
    · exact Or.inl (Or.inl e)
    · rcases hto.new k e with h1 | h1
      · exact Or.inl (Or.inr h1)
      · exact Or.inr h1
  have hlt : ∀ (j : Nat) (q : Mp), ms[j]? = some q → ∀ k, q.foot k → k < W.heap.size := fun j q hq k hk => (MpAt.foot (h.each j q hq) hk).2
  refine ⟨fun j q hq => ?_, fun j k q r hjk hq hr x hx hx2 => ?_, fun j q hq k hk hR => ?_, fun k hk => Nat.lt_of_lt_of_le (h.low k hk) hto.but.size⟩
  · rcases hget j q hq with ⟨_, rfl⟩ | ⟨hne, hq⟩
    · exact hto.at_
    · exact MpAt.keep (h.each j q hq) hto.but (fun k hk hk2 => h.apart i j m q (Ne.symm hne) hm hq k hk hk2)
  · rcases hget j q hq with ⟨rfl, rfl⟩ | ⟨hne, hq⟩
    · rcases hget k r hr with ⟨rfl, rfl⟩ | ⟨hne2, hr⟩
      · exact hjk rfl
      · rcases hfoot x hx with h1 | h1
        · exact h.apart j k m r hjk hm hr x h1 hx2
        · have := hlt k r hr x hx2
          omega
    · have hq2 := hq
      rcases hget k r hr with ⟨rfl, rfl⟩ | ⟨hne2, hr⟩
      · rcases hfoot x hx2 with h1 | h1
        · exact h.apart j k q m hjk hq2 hm x hx h1
        · have := hlt j q hq2 x hx
          omega
      · exact h.apart j k q r hjk hq2 hr x hx hx2
  · rcases hget j q hq with ⟨rfl, rfl⟩ | ⟨hne, hq⟩
    · rcases hfoot k hk with h1 | h1
      · exact h.off j m hm k h1 hR
      · have := h.low k hR
        omega
    · exact h.off j q hq k hk hR
theorem Ms.add {base : Nat} {R : Nat → Prop} {ms : List Mp} {W W' : World} (h : Ms base R ms W) (hb : Below W.heap.size W W') (m : Mp) (hm : m.At W' base) (hf : ∀ k, m.foot k → W.heap.size ≤ k) : Ms base R (ms ++ [m]) W' := by
  have h' := h.call hb
  have hlt : ∀ (j : Nat) (q : Mp), ms[j]? = some q → ∀ k, q.foot k → k < W.heap.size := fun j q hq k hk => (MpAt.foot (h.each j q hq) hk).2
  have hget : ∀ (j : Nat) (q : Mp), (ms ++ [m])[j]? = some q → (j = ms.length ∧ q = m) ∨ (j < ms.length ∧ ms[j]? = some q) := by
    intro j q hq
    by_cases e : j < ms.length
    · rw [List.getElem?_append_left e] at hq
      exact Or.inr ⟨e, hq⟩
    · rw [List.getElem?_append_right (by omega)] at hq
      have : j - ms.length = 0 := by have := (List.getElem?_eq_some_iff.1 hq).1; simp at this; omega
      rw [this] at hq
      injection hq with hq
      exact Or.inl ⟨by omega, hq.symm⟩
  refine ⟨fun j q hq => ?_, fun j k q r hjk hq hr x hx hx2 => ?_, fun j q hq k hk hR => ?_, h'.low⟩
  · rcases hget j q hq with ⟨_, rfl⟩ | ⟨_, hq⟩
    · exact hm
    · exact h'.each j q hq
  · rcases hget j q hq with ⟨rfl, rfl⟩ | ⟨_, hq⟩
    · rcases hget k r hr with ⟨rfl, rfl⟩ | ⟨_, hr⟩
      · exact hjk rfl
      · have := hlt k r hr x hx2
        have := hf x hx
        omega
    · have hq2 := hq
      rcases hget k r hr with ⟨rfl, rfl⟩ | ⟨_, hr⟩
      · have := hlt j q hq2 x hx
        have := hf x hx2
        omega
      · exact h.apart j k q r hjk hq2 hr x hx hx2
  · rcases hget j q hq with ⟨rfl, rfl⟩ | ⟨_, hq⟩
    · have := h.low k hR
      have := hf k hk
      omega
    · exact h.off j q hq k hk hR
theorem Ms.grow {base : Nat} {R0 : Nat → Prop} {v v' : Value} {ms : List Mp} {W W' : World} (h : Ms base (fun k => R0 k ∨ v.ownBlock = some k) ms W) (hg : W.grownBy W' v.ownBlock) (hl : v'.ownBlock = v.ownBlock ∨ v'.ownBlock = some W.heap.size) (hlt : ∀ k, v'.ownBlock = some k → k < W'.heap.size) :
    Ms base (fun k => R0 k ∨ v'.ownBlock = some k) ms W' := by
  refine ⟨fun j q hq => ?_, h.apart, fun j q hq k hk hR => ?_, fun k hk => ?_⟩
  · exact MpAt.keep (h.each j q hq) (But.of_grown hg) (fun k hk hk2 => h.off j q hq k hk2 (Or.inr hk))
  · rcases hR with hR | hR
    · exact h.off j q hq k hk (Or.inl hR)
    · rcases hl with e | e
      · exact h.off j q hq k hk (Or.inr (by rw [← e]; exact hR))
      · rw [e] at hR
        injection hR with hR
        have := (MpAt.foot (h.each j q hq) hk).2
        omega
  · rcases hk with hk | hk
    · exact Nat.lt_of_lt_of_le (h.low k (Or.inl hk)) hg.size
    · exact hlt k hk

/-! ### rows of pointers -/
abbrev PT : TypeId := 51
abbrev RT : TypeId := 56
def ptrs (bs : List Nat) : List Value := bs.map (fun b => Value.pointer (some ⟨b, 0, none⟩))
theorem ptrs_length (bs : List Nat) : (ptrs bs).length = bs.length := by unfold ptrs; simp
theorem ptrs_snoc (bs : List Nat) (b : Nat) : ptrs (bs ++ [b]) = ptrs bs ++ [.pointer (some ⟨b, 0, none⟩)] := by unfold ptrs; simp
theorem own_pget {w : World} {base : Nat} {t : TypeId} {v : Value} {n : Nat} {bs : List Nat} (h : w.ownsRow base t 1 v n (ptrs bs)) {i : Nat} (hi : i < n) : ∃ g c, v = .slice (some ⟨g, 0, none⟩) n c ∧ n ≤ c ∧ g < w.heap.size ∧ w.cell? ⟨g, i, none⟩ = some (.pointer (some ⟨bs.getD i 0, 0, none⟩)) := by
  have hl : bs.length = n := by have := h.1; rw [ptrs_length] at this; omega
  rcases h.2 with ⟨_, e⟩ | ⟨g, cap, cur, e, _, hg, hnc, _⟩
  · omega
  · refine ⟨g, cap, e, hnc, (Array.getElem?_eq_some_iff.1 hg).1, ?_⟩
    have := h.cells (g := g) (by rw [e]; rfl) i (.pointer (some ⟨bs.getD i 0, 0, none⟩)) (by
      unfold ptrs
      rw [List.getElem?_map, List.getD_eq_getElem?_getD, List.getElem?_eq_getElem (by omega)]
      rfl)
    rwa [Addr.add_mid, Nat.zero_add] at this
theorem own_types {w : World} {base base' : Nat} {t t' : TypeId} {s s' : Nat} {v v' : Value} {n n' : Nat} {xs xs' : List Value} (h : w.ownsRow base t s v n xs) (h' : w.ownsRow base' t' s' v' n' xs') (ht : t ≠ t') {k : Nat} (hk : v.ownBlock = some k) : v'.ownBlock ≠ some k := by
  intro hk'
  rcases h.2 with ⟨e, _⟩ | ⟨g, cap, cur, e, _, hg, _⟩
  · rw [e] at hk; cases hk
  · rcases h'.2 with ⟨e', _⟩ | ⟨g', cap', cur', e', _, hg', _⟩
    · rw [e'] at hk'; cases hk'
    · rw [e] at hk
      rw [e'] at hk'
      injection hk with hk
      injection hk' with hk'
      simp only at hk hk'
      rw [hk] at hg
      rw [hk', hg] at hg'
      injection hg' with hg'
      injection hg' with _ h2
      exact ht h2
theorem info_p : (Try.prog.info? 51).map (fun i => (i.zero, i.size, i.bytes)) = some (some (.pointer none), 1, 8) := by kernel_rfl
theorem info_r : (Try.prog.info? 56).map (fun i => (i.zero, i.size, i.bytes)) = some (some (.pointer none), 1, 8) := by kernel_rfl
end Go.Proofs.Ythngbakbiocadaa

/-
  maps.Make.
-/
namespace Go.Proofs.Ythngbakbiocadaa
set_option maxRecDepth 100000
open Go.ChangeShapes Go.WideShapes Go.ChangeAt Go.RowKit Go.Maps

/-- specs that lie in a slice -/
def spL (x : Int × Int) : List Value := [.int .i64 x.1, .int .i64 x.2]
theorem spT : RowT 69 2 := ⟨⟨_, Try.underlying69, rfl⟩, by kernel_rfl⟩
theorem spL_one (x : Int × Int) : ∀ v ∈ spL x, v.oneCell' = true := by
  intro v hv
  simp only [spL, List.mem_cons, List.not_mem_nil, or_false] at hv
  rcases hv with rfl | rfl <;> rfl
structure SpecsAt (w : World) (A : Option Addr) (n : Nat) (xs : List (Int × Int)) : Prop where
  len : xs.length = n
  rows : ManyAt w A 2 (xs.map spL)
theorem SpecsAt.step {w w' : World} {A : Option Addr} {n : Nat} {xs : List (Int × Int)} (h : SpecsAt w A n xs) (hb : Below w.heap.size w w') : SpecsAt w' A n xs := ⟨h.len, h.rows.step hb⟩
theorem SpecsAt.get {w : World} {A : Option Addr} {n : Nat} {xs : List (Int × Int)} (h : SpecsAt w A n xs) (k : Nat) (hk : k < n) : ∃ b off x, A = some ⟨b, off, none⟩ ∧ b < w.heap.size ∧ xs[k]? = some x ∧ w.rangeAt b (off + k * 2) (spL x) := by
  obtain ⟨b, off, e, hb, hc⟩ := h.rows.cells (by rw [List.length_map, h.len]; omega)
  have hx : xs[k]? = some (xs[k]'(by rw [h.len]; exact hk)) := List.getElem?_eq_getElem _
  exact ⟨b, off, _, e, hb, hx, hc k _ (by rw [List.getElem?_map, hx]; rfl)⟩
theorem cellsSp : Try.prog.cellsOf 69 = 2 := by kernel_rfl
theorem sp_cells {H : Type} {enc : TypeId × Value → H} {W : World} {fuel : Nat} {base : Nat} {spare : Nat → Bool} {held : Bool} {cs : List Value} {z : DataW H × List MemPlace} (ht : DataW.trod enc Try.prog W base spare held fuel 69 cs = some z) :
    ∃ x : Int × Int, cs = spL x := by
  obtain ⟨xs, n, _, rfl, hcl, hlen, hf⟩ := DataW.trod_struct Try.underlying69 ht
  rw [cellsSp] at hcl
  match xs, hlen with
  | [y0, y1], _ =>
    obtain ⟨a0, e0, _, _⟩ := DataW.trod_int Try.underlying3 (hf 0 _ rfl)
    obtain ⟨a1, e1, _, _⟩ := DataW.trod_int Try.underlying3 (hf 1 _ rfl)
    have c0 : (cs.drop 0).take (Try.prog.cellsOf 3) = [.int .i64 a0] := e0
    have c1 : (cs.drop 1).take (Try.prog.cellsOf 3) = [.int .i64 a1] := e1
    rw [cellsI] at c0 c1
    refine ⟨(a0, a1), ?_⟩
    match cs, hcl with
    | [v0, v1], _ =>
      simp at c0 c1
      subst c0 c1
      rfl
theorem open_specs {H : Type} {enc : TypeId × Value → H} {W : World} {base : Nat} {v : Value} {d : DataW H} {p : List MemPlace} (hv : Value.okWide Try.prog W .any base 67 v)
    (h : DataW.Trod enc Try.prog W 0 (fun _ => true) true 67 v d p) : ∃ A n c xs, v = .slice A n c ∧ (n ≤ c ∧ c ≤ maxLen) ∧ SpecsAt W A n xs := by
  obtain ⟨A, n, c, rs, rfl, hl, hm, hg, hr⟩ := open_many (z := 2) (by decide) Try.underlying67 cellsSp (fun cs => ∃ x : Int × Int, cs = spL x) (fun m k cs x ht => sp_cells ht) (fun cs ⟨q, he⟩ => by rw [he]; rfl) hv h
  have : ∀ rs : List (List Value), (∀ r ∈ rs, ∃ x : Int × Int, r = spL x) → ∃ xs : List (Int × Int), rs = xs.map spL := by
    intro rs
    induction rs with
    | nil => intro _; exact ⟨[], rfl⟩
    | cons r t ih =>
      intro hr
      obtain ⟨q, e⟩ := hr r (List.mem_cons_self ..)
      obtain ⟨ps, e2⟩ := ih (fun x hx => hr x (List.mem_cons_of_mem _ hx))
      exact ⟨q :: ps, by rw [e, e2]; rfl⟩
  obtain ⟨xs, e⟩ := this rs hg
  exact ⟨A, n, c, xs, rfl, hm, by rw [← hl, e, List.length_map], e ▸ hr⟩
/-! ### specs that can be -/
def goodSp (x : Int × Int) : Bool := decide ((x.1 = 1 ∨ x.1 = 2) ∧ 1 ≤ x.2 ∧ x.2 ≤ 8)
def freshP (x : Int × Int) (b : Nat) : Mp := ⟨74, kd (decide (x.1 = 2)), b, .slice none 0 0, x.2.toNat, []⟩
def freshR (x : Int × Int) (b : Nat) : Mp := ⟨59, .bool (decide (x.1 = 2)), b, .slice none 0 0, x.2.toNat, []⟩
theorem new_spec (x : Int × Int) (w : World) (h : goodSp x = true) : Calls Try.prog 33 #[.int .i64 x.1, .int .i64 x.2] w (Made (decide (x.1 = 2)) x.2.toNat w) := by
  obtain ⟨k, r⟩ := x
  obtain ⟨h1, h2, h3⟩ := of_decide_eq_true h
  simp only at h1 h2 h3
  obtain ⟨m, rfl⟩ : ∃ m : Nat, r = (m : Int) := ⟨r.toNat, by omega⟩
  rcases h1 with rfl | rfl
  · exact new_hash m w (by omega) (by omega)
  · exact new_lru m w (by omega) (by omega)
theorem rnew_spec (x : Int × Int) (w : World) (h : goodSp x = true) : Calls Try.prog 23 #[.int .i64 x.1, .int .i64 x.2] w (RMade (decide (x.1 = 2)) x.2.toNat w) := by
  obtain ⟨k, r⟩ := x
  obtain ⟨h1, h2, h3⟩ := of_decide_eq_true h
  simp only at h1 h2 h3
  obtain ⟨m, rfl⟩ : ∃ m : Nat, r = (m : Int) := ⟨r.toNat, by omega⟩
  rcases h1 with rfl | rfl
  · exact rnew_hash m w (by omega) (by omega)
  · exact rnew_lru m w (by omega) (by omega)
theorem new_bad (x : Int × Int) (w : World) (h : goodSp x = false) : Calls Try.prog 33 #[.int .i64 x.1, .int .i64 x.2] w fun e w' => e = .returned (.tuple #[.pointer none, .int .i64 22]) ∧ Below w.heap.size w w' := new_no x.1 x.2 w (of_decide_eq_false h)
theorem rnew_bad (x : Int × Int) (w : World) (h : goodSp x = false) : Calls Try.prog 23 #[.int .i64 x.1, .int .i64 x.2] w fun e w' => e = .returned (.pointer none) ∧ Below w.heap.size w w' := rnew_no x.1 x.2 w (of_decide_eq_false h)
/-- while the maps are made -/
structure MkS (w : World) (base : Nat) (xs : List (Int × Int)) (k : Nat) (v : Value) (bs : List Nat) (ms : List Mp) (W : World) : Prop where
  own : W.ownsRow base PT 1 v k (ptrs bs)
  all : Ms base (fun k => False ∨ v.ownBlock = some k) ms W
  len : ms.length = k
  is : ∀ i x, i < k → xs[i]? = some x → goodSp x = true ∧ ms[i]? = some (freshP x (bs.getD i 0))
  bel : Below w.heap.size w W
theorem MkS.start (w : World) (base : Nat) (xs : List (Int × Int)) : MkS w base xs 0 (.slice none 0 0) [] [] w where
  own := ⟨rfl, Or.inl ⟨rfl, rfl⟩⟩
  all := (Ms.nil base w).sub (fun k hk => by rcases hk with h | h; exact h; cases h)
  len := rfl
  is := fun i x hi => absurd hi (Nat.not_lt_zero _)
  bel := Below.refl _ _
def MakeGive (base n : Nat) (xs : List (Int × Int)) (w : World) (e : Ending) (w' : World) : Prop :=
  if n ≤ 4 ∧ xs.all goodSp = true then ∃ v bs ms, e = .returned (.tuple #[v, .int .i64 0]) ∧ MkS w base xs n v bs ms w'
  else e = .returned (.tuple #[.slice none 0 0, .int .i64 22]) ∧ Below w.heap.size w w'
theorem MkS.call {w : World} {base : Nat} {xs : List (Int × Int)} {k : Nat} {v : Value} {bs : List Nat} {ms : List Mp} {W W' : World} (h : MkS w base xs k v bs ms W) (hb : Below W.heap.size W W') : MkS w base xs k v bs ms W' :=
  ⟨owns_below h.own hb, h.all.call hb, h.len, h.is, h.bel.trans (hb.mono h.bel.size)⟩
/-- one map more is made, not yet appended -/
structure Mk1 (w : World) (base : Nat) (xs : List (Int × Int)) (k : Nat) (v : Value) (bs : List Nat) (ms : List Mp) (x : Int × Int) (b : Nat) (W : World) : Prop where
  own : W.ownsRow base PT 1 v k (ptrs bs)
  all : Ms base (fun k => False ∨ v.ownBlock = some k) (ms ++ [freshP x b]) W
  len : ms.length = k
  good : goodSp x = true
  is : ∀ i x, i < k → xs[i]? = some x → goodSp x = true ∧ ms[i]? = some (freshP x (bs.getD i 0))
  bel : Below w.heap.size w W
theorem MkS.add {w : World} {base : Nat} {xs : List (Int × Int)} {k : Nat} {v : Value} {bs : List Nat} {ms : List Mp} {x : Int × Int} {W W' : World} {e : Ending} (h : MkS w base xs k v bs ms W) (hbw : base ≤ W.heap.size) (hg : goodSp x = true) (hm : Made (decide (x.1 = 2)) x.2.toNat W e W') : Mk1 w base xs k v bs ms x W.heap.size W' := by
  obtain ⟨_, h1, h2⟩ := hm
  refine ⟨owns_below h.own h2, h.all.add h2 (freshP x W.heap.size) (h1 base hbw) (fun k hk => ?_), h.len, hg, h.is, h.bel.trans (h2.mono h.bel.size)⟩
  rcases hk with e | e
  · rw [e]; exact Nat.le_refl _
  · cases e
theorem Mk1.call {w : World} {base : Nat} {xs : List (Int × Int)} {k : Nat} {v : Value} {bs : List Nat} {ms : List Mp} {x : Int × Int} {b : Nat} {W W' : World} (h : Mk1 w base xs k v bs ms x b W) (hb : Below W.heap.size W W') : Mk1 w base xs k v bs ms x b W' :=
  ⟨owns_below h.own hb, h.all.call hb, h.len, h.good, h.is, h.bel.trans (hb.mono h.bel.size)⟩
theorem Mk1.done {w : World} {base : Nat} {xs : List (Int × Int)} {k : Nat} {v v' : Value} {bs : List Nat} {ms : List Mp} {x : Int × Int} {b : Nat} {W W' : World} (h : Mk1 w base xs k v bs ms x b W) (hx : xs[k]? = some x) (hbw : w.heap.size ≤ base) (hg : W.grownBy W' v.ownBlock) (hl : v'.ownBlock = v.ownBlock ∨ v'.ownBlock = some W.heap.size) (hown : W'.ownsRow base PT 1 v' (k + 1) (ptrs bs ++ [.pointer (some ⟨b, 0, none⟩)])) :
    MkS w base xs (k + 1) v' (bs ++ [b]) (ms ++ [freshP x b]) W' := by
  have hbl : bs.length = k := by have := h.own.1; rw [ptrs_length] at this; omega
  refine ⟨by rw [ptrs_snoc]; exact hown, h.all.grow hg hl (fun k hk => (hown.lt k hk).2), by rw [List.length_append, h.len]; rfl, fun i y hi hy => ?_, h.bel.grown hg h.bel.size (fun j hj => Nat.le_trans hbw (h.own.lt j hj).1)⟩
  by_cases e : i = k
  · subst e
    rw [hx] at hy
    injection hy with hy
    subst hy
    refine ⟨h.good, ?_⟩
    have hml := h.len
    rw [List.getElem?_append_right (by omega), h.len, Nat.sub_self, List.getD_eq_getElem?_getD, List.getElem?_append_right (by omega), hbl, Nat.sub_self]
    rfl
  · obtain ⟨g1, g2⟩ := h.is i y (by omega) hy
    refine ⟨g1, ?_⟩
    rw [List.getElem?_append_left (by rw [h.len]; omega), g2]
    congr 2
    rw [List.getD_eq_getElem?_getD, List.getD_eq_getElem?_getD, List.getElem?_append_left (by omega)]
theorem all_no {xs : List (Int × Int)} {k : Nat} {x : Int × Int} (h : xs[k]? = some x) (hx : goodSp x = false) : xs.all goodSp = false := by
  rw [List.all_eq_false]
  exact ⟨x, List.mem_of_getElem? h, by rw [hx]; decide⟩
theorem make_no {base n : Nat} {xs : List (Int × Int)} {w w' : World} (h : ¬ (n ≤ 4 ∧ xs.all goodSp = true)) (hb : Below w.heap.size w w') : MakeGive base n xs w (.returned (.tuple #[.slice none 0 0, .int .i64 22])) w' := by
  unfold MakeGive; rw [if_neg h]; exact ⟨rfl, hb⟩
theorem make_yes {base n : Nat} {xs : List (Int × Int)} {w w' : World} {v : Value} {bs : List Nat} {ms : List Mp} (h4 : n ≤ 4) (hl : xs.length = n) (h : MkS w base xs n v bs ms w') : MakeGive base n xs w (.returned (.tuple #[v, .int .i64 0])) w' := by
  unfold MakeGive
  rw [if_pos]
  · exact ⟨v, bs, ms, rfl, h⟩
  · refine ⟨h4, ?_⟩
    rw [List.all_eq_true]
    intro x hx
    obtain ⟨i, hi, rfl⟩ := List.getElem_of_mem hx
    exact (h.is i _ (by omega) (List.getElem?_eq_getElem hi)).1
set_option maxRecDepth 100000 in
set_option maxHeartbeats 2000000 in
theorem make_any (A : Option Addr) (n c base : Nat) (xs : List (Int × Int)) (w : World) (h : SpecsAt w A n xs) (hbase : base = w.heap.size) :
    Calls Try.prog 24 #[.slice A n c] w (MakeGive base n xs w) := by
  have H0 := Lib.hid h
  have HL := Lib.hid h.len
  have HBS := Lib.hid hbase
  have S0 := Lib.hid (MkS.start w base xs)
  obtain ⟨i0, hi0, hz0, hs0, hb0⟩ := info_parts info_p
  have HI0 := Lib.hid hi0
  have HZ0 := Lib.hid hz0
  have HS0 := Lib.hid hs0
  have HB0 := Lib.hid hb0
  have HNW := Lib.hid (fun x w h => new_spec x w h)
  have HNB := Lib.hid (fun x w h => new_bad x w h)
  clear h hi0 hz0 hs0 hb0 hbase
  by_cases h4 : n ≤ 4
  · have H4 := Lib.hid h4
    have h4i : ¬ ((4 : Int) < (n : Int)) := by omega
    go_enter Try.func24, Try.ntmps24
    go_wp2
    go_loopw [4, 14] (fun l i wr => ∃ (k : Nat) (A' : Option Addr) (c' : Nat) (bs : List Nat) (ms : List Mp), k ≤ n ∧ i = .int .i64 (k : Int) ∧ l = .slice A' k c' ∧ Hid (MkS w base xs k (.slice A' k c') bs ms wr)) (fun _ i _ => n - (intOf i).toNat)
    case atStart => exact ⟨0, none, 0, [], [], Nat.zero_le _, rfl, rfl, S0⟩
    case round =>
      clear S0
      obtain ⟨k, A', c', bs, ms, hk, rfl, rfl, S⟩ := hrel
      rename World => wo
      by_cases hlt : k < n
      · obtain ⟨b, off, x, hA, hb, hx, hc⟩ := (H0.out.step (S.out.bel)).get k hlt
        subst hA
        have HC := Lib.hid hc
        have HX := Lib.hid hx
        have hk0 : (0 : Int) ≤ (k : Int) := by omega
        have hk1 : (k : Int) < (n : Int) := by omega
        clear hx hc hb
        cases hg : goodSp x with
        | true =>
          have HG := Lib.hid hg
          clear hg
          go_wp2_with (first
            | ((with_reducible refine wpList_load_at spT HC.out rfl rfl (.tmp 16) rfl ?_ ?_); (exact rfl))
            | ((with_reducible refine wpList_store_newrow spT (vs := spL x) rfl (spL_one _) rfl (.tmp 6) (.tmp 17) rfl rfl ?_ ?_ ?_); (exact rfl); (exact rfl); intro W4 hP hb hz; have hkc := hP.cell 0 _ rfl; have hrc := hP.cell 1 _ rfl; replace S := Lib.hid (S.out.call hb); clear hP hb hz; generalize wo.heap.size = G at hkc hrc ⊢)
            | (go_at_call 33; refine (HNW.out x W4 HG.out).mono ?_; intro e w5 hm; have S5 := Lib.hid (S.out.add (by have := S.out.bel.size; have := HBS.out; omega) HG.out hm); obtain ⟨rfl, _, _⟩ := hm; clear hkc hrc S; generalize W4.heap.size = B5 at S5 ⊢; have HNw := Lib.hid (cell_one_new w5 (.pointer (some ⟨B5, 0, none⟩)) 51); have S6 := Lib.hid (S5.out.call ((Below.refl _ _).alloc (Nat.le_refl _) (.cells #[.pointer (some ⟨B5, 0, none⟩)] 51))); have HSZ : Hid (base ≤ (w5.alloc (.cells #[.pointer (some ⟨B5, 0, none⟩)] 51)).heap.size) := Lib.hid (by have := S6.out.bel.size; have := HBS.out; omega))
            | (at_builtin; go_must (refine wpList_append_own_at _ rfl (.tmp 29) (.tmp 31) 29 rfl base 51 i0 _ 1 8 Try.underlying29 HI0.out HZ0.out HS0.out HB0.out rfl (by omega) _ k _ rfl S6.out.own ⟨w5.heap.size, 0, none⟩ 1 1 [.pointer (some ⟨B5, 0, none⟩)] rfl rfl HNw.out (by intro u hu; simp at hu; subst hu; rfl) (by unfold maxLen; omega) (by omega) HSZ.out ?_); intro v' w7 hown' hgrow hnil hloc; obtain ⟨A', c', rfl⟩ := owns_slice hown'))
          have S7 := Lib.hid (S6.out.done HX.out (Nat.le_of_eq HBS.out.symm) hgrow hloc hown')
          clear hown' hgrow hnil hloc S5 S6
          go_roundw
          case rel => exact ⟨k + 1, A', c', _, _, by omega, by go_num, rfl, S7⟩
          case measure => (simp [intOf] <;> omega)
        | false =>
          have HG := Lib.hid hg
          have HF := Lib.hid (fun w' => make_no (base := base) (n := n) (w := w) (w' := w') (fun hh => by have := all_no HX.out HG.out; rw [hh.2] at this; cases this))
          clear hg
          go_wp2_with (first
            | ((with_reducible refine wpList_load_at spT HC.out rfl rfl (.tmp 16) rfl ?_ ?_); (exact rfl))
            | ((with_reducible refine wpList_store_newrow spT (vs := spL x) rfl (spL_one _) rfl (.tmp 6) (.tmp 17) rfl rfl ?_ ?_ ?_); (exact rfl); (exact rfl); intro W4 hP hb hz; have hkc := hP.cell 0 _ rfl; have hrc := hP.cell 1 _ rfl; replace S := Lib.hid (S.out.call hb); clear hP hb hz; generalize wo.heap.size = G at hkc hrc ⊢)
            | (go_at_call 33; refine (HNB.out x W4 HG.out).mono ?_; rintro e w5 ⟨rfl, hb⟩; have B5 := Lib.hid (S.out.bel.trans (hb.mono S.out.bel.size)); clear hb hkc hrc S))
          go_ret2
          exact HF.out _ B5.out
      · obtain rfl : k = n := by omega
        have HF := Lib.hid (make_yes h4 HL.out S.out)
        clear hlt
        go_wp2
        go_ret2
        exact HF.out
  · have h4i : (4 : Int) < (n : Int) := by omega
    have HF := Lib.hid (make_no (base := base) (xs := xs) (w := w) (w' := w) (fun hh => h4 hh.1) (Below.refl _ _))
    clear h4
    go_enter Try.func24, Try.ntmps24
    go_wp2
    go_ret2
    exact HF.out
end Go.Proofs.Ythngbakbiocadaa

/-
  A set of maps beside the document's: what each call makes of them.
-/
namespace Go.Proofs.Ythngbakbiocadaa
set_option maxRecDepth 100000
open Go.ChangeShapes Go.WideShapes Go.ChangeAt Go.RowKit Go.Maps

structure Dt where
  lru : Bool
  room : Nat
  l : List Z.En
def Dt.ok (d : Dt) : Prop := d.l.length ≤ d.room ∧ 1 ≤ d.room ∧ d.room ≤ 8
def Dt.put (d : Dt) (x : Z.En) : Dt := ⟨d.lru, d.room, Z.putI d.lru d.room d.l x⟩
def Dt.code (d : Dt) (x : Z.En) : Int := Z.putC d.lru d.room d.l x
def Dt.clr (d : Dt) : Dt := ⟨d.lru, d.room, []⟩
def Dt.p (d : Dt) (b : Nat) (sv : Value) : Mp := ⟨74, kd d.lru, b, sv, d.room, d.l⟩
def Dt.r (d : Dt) (b : Nat) (sv : Value) : Mp := ⟨59, .bool d.lru, b, sv, d.room, d.l⟩
theorem Dt.ok_put {d : Dt} (h : d.ok) (x : Z.En) : (d.put x).ok := ⟨Z.putI_len h.1 h.2.1, h.2.1, h.2.2⟩
structure InvM (w : World) (base n : Nat) (v u : Value) (bs cs : List Nat) (ms : List Mp) (W : World) : Prop where
  all : Ms base (fun k => v.ownBlock = some k ∨ u.ownBlock = some k) ms W
  st : W.ownsRow base 51 1 v n (ptrs bs)
  rt : W.ownsRow base 56 1 u n (ptrs cs)
  bel : Below w.heap.size w W
  low : w.heap.size ≤ base
  hi : base ≤ W.heap.size
structure Data (n : Nat) (bs cs : List Nat) (ms : List Mp) (dp dr : List Dt) : Prop where
  pl : dp.length = n
  rl : dr.length = n
  p : ∀ (i : Nat) (d : Dt), dp[i]? = some d → ∃ sv, ms[i]? = some (d.p (bs.getD i 0) sv)
  r : ∀ (i : Nat) (d : Dt), dr[i]? = some d → ∃ sv, ms[n + i]? = some (d.r (cs.getD i 0) sv)
section
variable {w : World} {base n : Nat} {v u : Value} {bs cs : List Nat} {ms : List Mp} {dp dr : List Dt}
theorem InvM.call {W W' : World} (h : InvM w base n v u bs cs ms W) (hb : Below W.heap.size W W') : InvM w base n v u bs cs ms W' :=
  ⟨h.all.call hb, owns_below h.st hb, owns_below h.rt hb, h.bel.trans (hb.mono h.bel.size), h.low, Nat.le_trans h.hi hb.size⟩
theorem InvM.turn {W W' : World} (h : InvM w base n v u bs cs ms W) (i : Nat) (m : Mp) (hm : ms[i]? = some m) {sv' : Value} {l' : List Z.En} (hto : MpTo m.et m.hd W base m.b m.sv m.room l' W' sv') :
    InvM w base n v u bs cs (ms.set i ⟨m.et, m.hd, m.b, sv', m.room, l'⟩) W' := by
  have hoff := h.all.off i m hm
  have hlow : ∀ k, m.foot k → base ≤ k := fun k hk => (MpAt.foot (h.all.each i m hm) hk).1
  exact ⟨h.all.turn i m hm hto, own_but h.st hto.but (fun g hg hf => hoff g hf (Or.inl hg)), own_but h.rt hto.but (fun g hg hf => hoff g hf (Or.inr hg)),
    h.bel.trans (hto.but.below h.bel.size (fun x hx => Nat.le_trans h.low (hlow x hx))), h.low, Nat.le_trans h.hi hto.but.size⟩
theorem Data.setP (h : Data n bs cs ms dp dr) {i : Nat} {d d' : Dt} (hd : dp[i]? = some d) (hr : d'.lru = d.lru) (hr2 : d'.room = d.room) {m : Mp} (hm : ms[i]? = some m) (sv' : Value) (hmm : ∃ sv, m = d.p (bs.getD i 0) sv) :
    Data n bs cs (ms.set i ⟨m.et, m.hd, m.b, sv', m.room, d'.l⟩) (dp.set i d') dr := by
  have hi : i < n := by rw [← h.pl]; exact (List.getElem?_eq_some_iff.1 hd).1
  have him := (List.getElem?_eq_some_iff.1 hm).1
  obtain ⟨sv, rfl⟩ := hmm
  refine ⟨by rw [List.length_set]; exact h.pl, h.rl, fun j q hq => ?_, fun j q hq => ?_⟩
  · by_cases e : i = j
    · subst e
      rw [List.getElem?_set_self (by rw [h.pl]; exact hi)] at hq
      injection hq with hq
      subst hq
      refine ⟨sv', ?_⟩
      rw [List.getElem?_set_self him]
      unfold Dt.p
      rw [hr, hr2]
    · rw [List.getElem?_set_ne e] at hq ⊢
      exact h.p j q hq
  · rw [List.getElem?_set_ne (by omega)]
    exact h.r j q hq
theorem Data.setR (h : Data n bs cs ms dp dr) {i : Nat} {d d' : Dt} (hd : dr[i]? = some d) (hr : d'.lru = d.lru) (hr2 : d'.room = d.room) {m : Mp} (hm : ms[n + i]? = some m) (sv' : Value) (hmm : ∃ sv, m = d.r (cs.getD i 0) sv) :
    Data n bs cs (ms.set (n + i) ⟨m.et, m.hd, m.b, sv', m.room, d'.l⟩) dp (dr.set i d') := by
  have hi : i < n := by rw [← h.rl]; exact (List.getElem?_eq_some_iff.1 hd).1
  have him := (List.getElem?_eq_some_iff.1 hm).1
  obtain ⟨sv, rfl⟩ := hmm
  refine ⟨h.pl, by rw [List.length_set]; exact h.rl, fun j q hq => ?_, fun j q hq => ?_⟩
  · have hj : j < n := by rw [← h.pl]; exact (List.getElem?_eq_some_iff.1 hq).1
    rw [List.getElem?_set_ne (by omega)]
    exact h.p j q hq
  · by_cases e : i = j
    · subst e
      rw [List.getElem?_set_self (by rw [h.rl]; exact hi)] at hq
      injection hq with hq
      subst hq
      refine ⟨sv', ?_⟩
      rw [List.getElem?_set_self him]
      unfold Dt.r
      rw [hr, hr2]
    · rw [List.getElem?_set_ne (by omega)]
      rw [List.getElem?_set_ne e] at hq
      exact h.r j q hq
/-- the maps of both sides, whatever lies where -/
def Inv (w : World) (base n : Nat) (v u : Value) (bs cs : List Nat) (dp dr : List Dt) (W : World) : Prop := ∃ ms, InvM w base n v u bs cs ms W ∧ Data n bs cs ms dp dr
theorem Inv.call {W W' : World} (h : Inv w base n v u bs cs dp dr W) (hb : Below W.heap.size W W') : Inv w base n v u bs cs dp dr W' := by
  obtain ⟨ms, h1, h2⟩ := h
  exact ⟨ms, h1.call hb, h2⟩
theorem inv_put {W : World} (h : Inv w base n v u bs cs dp dr W) {i : Nat} {d : Dt} (hd : dp[i]? = some d) (hok : d.ok) (x : Z.En) :
    Calls Try.prog 25 #[.pointer (some ⟨bs.getD i 0, 0, none⟩), .int .i64 x.key, .agg #[.int .i64 x.a, .int .i64 x.b, .int .i64 x.c, .int .i64 x.d]] W fun e w' => e = .returned (.int .i64 (d.code x)) ∧ Inv w base n v u bs cs (dp.set i (d.put x)) dr w' := by
  obtain ⟨ms, h1, h2⟩ := h
  obtain ⟨sv, hm⟩ := h2.p i d hd
  exact (put_any d.lru base (bs.getD i 0) sv d.room d.l x W (h1.all.each i _ hm) hok.1 hok.2.1 (by have := hok.2.2; omega) h1.hi).mono fun e w' ⟨g1, sv', g2⟩ =>
    ⟨g1, _, h1.turn i _ hm g2, h2.setP (d' := d.put x) hd rfl rfl hm sv' ⟨sv, rfl⟩⟩
theorem inv_rput {W : World} (h : Inv w base n v u bs cs dp dr W) {i : Nat} {d : Dt} (hd : dr[i]? = some d) (hok : d.ok) (x : Z.En) :
    Calls Try.prog 26 #[.pointer (some ⟨cs.getD i 0, 0, none⟩), .int .i64 x.key, .agg #[.int .i64 x.a, .int .i64 x.b, .int .i64 x.c, .int .i64 x.d]] W fun e w' => e = .returned (.int .i64 (d.code x)) ∧ Inv w base n v u bs cs dp (dr.set i (d.put x)) w' := by
  obtain ⟨ms, h1, h2⟩ := h
  obtain ⟨sv, hm⟩ := h2.r i d hd
  exact (rput_any d.lru base (cs.getD i 0) sv d.room d.l x W (h1.all.each (n + i) _ hm) hok.1 hok.2.1 (by have := hok.2.2; omega) h1.hi).mono fun e w' ⟨g1, sv', g2⟩ =>
    ⟨g1, _, h1.turn (n + i) _ hm g2, h2.setR (d' := d.put x) hd rfl rfl hm sv' ⟨sv, rfl⟩⟩
theorem inv_len {W : World} (h : Inv w base n v u bs cs dp dr W) {i : Nat} {d : Dt} (hd : dp[i]? = some d) :
    Calls Try.prog 20 #[.pointer (some ⟨bs.getD i 0, 0, none⟩)] W fun e w' => e = .returned (.int .i64 (d.l.length : Int)) ∧ Below W.heap.size W w' := by
  obtain ⟨ms, h1, h2⟩ := h
  obtain ⟨sv, hm⟩ := h2.p i d hd
  exact len_any (kd d.lru) base (bs.getD i 0) sv d.room d.l W (h1.all.each i _ hm)
theorem inv_all {W : World} (h : Inv w base n v u bs cs dp dr W) {i : Nat} {d : Dt} (hd : dp[i]? = some d) (hok : d.ok) :
    Calls Try.prog 18 #[.pointer (some ⟨bs.getD i 0, 0, none⟩)] W fun e w' => ∃ A c, e = .returned (.slice A d.l.length c) ∧ EnsAt w' A d.l.length d.l ∧ Below W.heap.size W w' := by
  obtain ⟨ms, h1, h2⟩ := h
  obtain ⟨sv, hm⟩ := h2.p i d hd
  exact all_any (kd d.lru) base (bs.getD i 0) sv d.room d.l W (h1.all.each i _ hm) (by have := hok.1; have := hok.2.2; omega)
theorem inv_ptr {W : World} (h : Inv w base n v u bs cs dp dr W) {i : Nat} (hi : i < n) : ∃ g c, v = .slice (some ⟨g, 0, none⟩) n c ∧ n ≤ c ∧ W.cell? ⟨g, i, none⟩ = some (.pointer (some ⟨bs.getD i 0, 0, none⟩)) := by
  obtain ⟨ms, h1, h2⟩ := h
  obtain ⟨g, c, e1, e2, _, e3⟩ := own_pget h1.st hi
  exact ⟨g, c, e1, e2, e3⟩
theorem inv_rptr {W : World} (h : Inv w base n v u bs cs dp dr W) {i : Nat} (hi : i < n) : ∃ g c, u = .slice (some ⟨g, 0, none⟩) n c ∧ n ≤ c ∧ W.cell? ⟨g, i, none⟩ = some (.pointer (some ⟨cs.getD i 0, 0, none⟩)) := by
  obtain ⟨ms, h1, h2⟩ := h
  obtain ⟨g, c, e1, e2, _, e3⟩ := own_pget h1.rt hi
  exact ⟨g, c, e1, e2, e3⟩
end
/-! ### At, Entries, Clear of a set -/
theorem at_out (A : Option Addr) (n c : Nat) (i : Int) (w : World) (h : i < 0 ∨ (n : Int) ≤ i) : Calls Try.prog 17 #[.slice A n c, .int .i64 i] w fun e w' => e = .returned (.pointer none) ∧ w = w' := by
  by_cases h1 : i < 0
  · clear h
    go_enter Try.func17, Try.ntmps17
    go_wp2
    refine bodyPost_ret (results_tmp rfl _ _ _) rfl ⟨rfl, rfl⟩
  · have h2 : (n : Int) ≤ i := by omega
    clear h
    go_enter Try.func17, Try.ntmps17
    go_wp2
    refine bodyPost_ret (results_tmp rfl _ _ _) rfl ⟨rfl, rfl⟩
theorem at_in (g n c i b : Nat) (w : World) (hi : i < n) (hc : w.cell? ⟨g, i, none⟩ = some (.pointer (some ⟨b, 0, none⟩))) : Calls Try.prog 17 #[.slice (some ⟨g, 0, none⟩) n c, .int .i64 (i : Int)] w fun e w' => e = .returned (.pointer (some ⟨b, 0, none⟩)) ∧ w = w' := by
  have h0 : ¬ ((i : Int) < 0) := by omega
  have h1 : ¬ ((n : Int) ≤ (i : Int)) := by omega
  have h2 : (i : Int) < (n : Int) := by omega
  have h3 : (0 : Int) ≤ (i : Int) := by omega
  clear hi
  go_enter Try.func17, Try.ntmps17
  go_wp2
  go_ret
  exact ⟨rfl, rfl⟩
def sumK (ds : List Dt) (k : Nat) : Nat := ((ds.take k).map (fun d => d.l.length)).sum
theorem sumK_succ {ds : List Dt} {k : Nat} {d : Dt} (h : ds[k]? = some d) : sumK ds (k + 1) = sumK ds k + d.l.length := by
  obtain ⟨hk, e⟩ := List.getElem?_eq_some_iff.1 h
  unfold sumK
  rw [List.take_succ_eq_append_getElem hk, List.map_append, List.sum_append, e]
  simp
theorem sumK_le {ds : List Dt} (h : ∀ d ∈ ds, d.ok) : ∀ k, sumK ds k ≤ 8 * k
  | 0 => by simp [sumK]
  | k + 1 => by
    have ih := sumK_le h k
    by_cases hk : k < ds.length
    · rw [sumK_succ (List.getElem?_eq_getElem hk)]
      have h8 := h _ (List.getElem_mem hk)
      have := h8.1
      have := h8.2.2
      omega
    · unfold sumK at ih ⊢
      rw [List.take_of_length_le (by omega)] at ih ⊢
      omega
def clrK (ds : List Dt) (k : Nat) : List Dt := (ds.take k).map Dt.clr ++ ds.drop k
theorem clrK_zero (ds : List Dt) : clrK ds 0 = ds := by simp [clrK]
theorem clrK_at {ds : List Dt} {k : Nat} {d : Dt} (h : ds[k]? = some d) : (clrK ds k)[k]? = some d ∧ (clrK ds k).set k d.clr = clrK ds (k + 1) := by
  obtain ⟨hk, e⟩ := List.getElem?_eq_some_iff.1 h
  have hl : ((ds.take k).map Dt.clr).length = k := by rw [List.length_map, List.length_take]; omega
  constructor
  · unfold clrK
    rw [List.getElem?_append_right (by omega), hl, Nat.sub_self, List.getElem?_drop]
    exact h
  · unfold clrK
    rw [List.set_append_right _ _ (by omega), hl, Nat.sub_self, List.drop_eq_getElem_cons hk, List.set_cons_zero, List.take_succ_eq_append_getElem hk, e, List.map_append]
    simp
theorem clrK_len (ds : List Dt) (k : Nat) : (clrK ds k).length = ds.length := by
  unfold clrK
  rw [List.length_append, List.length_map, List.length_take, List.length_drop]
  omega
theorem clrK_sum (ds : List Dt) (n : Nat) (hn : ds.length = n) : ∀ k, sumK (clrK ds n) k = 0 := by
  intro k
  have e : clrK ds n = ds.map Dt.clr := by
    unfold clrK
    rw [← hn, List.take_length, List.drop_length, List.append_nil]
  rw [e]
  unfold sumK
  rw [← List.map_take, List.map_map]
  induction (ds.take k) with
  | nil => rfl
  | cons d t ih => rw [List.map_cons, List.sum_cons, ih]; rfl
theorem clrK_ok {ds : List Dt} (h : ∀ d ∈ ds, d.ok) (k : Nat) : ∀ d ∈ clrK ds k, d.ok := by
  intro d hd
  unfold clrK at hd
  rcases List.mem_append.1 hd with h1 | h1
  · obtain ⟨q, hq, rfl⟩ := List.mem_map.1 h1
    have := h q (List.mem_of_mem_take hq)
    exact ⟨Nat.zero_le _, this.2.1, this.2.2⟩
  · exact h d (List.mem_of_mem_drop h1)
section
variable {w : World} {base n : Nat} {v u : Value} {bs cs : List Nat} {dp dr : List Dt}
set_option maxHeartbeats 1000000 in
theorem entries_any {W : World} (h : Inv w base n v u bs cs dp dr W) (hl : dp.length = n) (hok : ∀ d ∈ dp, d.ok) (hn : n ≤ 4) :
    Calls Try.prog 13 #[v] W fun e w' => e = .returned (.int .i64 (sumK dp n : Int)) ∧ Below W.heap.size W w' := by
  obtain ⟨A, c, hv⟩ : ∃ A c, v = .slice A n c := by
    obtain ⟨ms, h1, _⟩ := h
    exact owns_slice h1.st
  have H := Lib.hid h
  have HV := Lib.hid hv
  have HOK := Lib.hid hok
  have HL := Lib.hid hl
  rw [hv]
  clear h hv hok hl
  go_enter Try.func13, Try.ntmps13
  go_wp2
  go_loopw [3, 5, 8] (fun s _ i wr => ∃ k : Nat, k ≤ n ∧ i = .int .i64 (k : Int) ∧ s = .int .i64 (sumK dp k : Int) ∧ Hid (Below W.heap.size W wr)) (fun _ _ i _ => n - (intOf i).toNat)
  case atStart => exact ⟨0, Nat.zero_le _, rfl, rfl, Lib.hid (Below.refl _ _)⟩
  case round =>
    obtain ⟨k, hk, rfl, rfl, HB⟩ := hrel
    by_cases hlt : k < n
    · have I2 := H.out.call HB.out
      obtain ⟨g, c', e1, _, hc⟩ := inv_ptr I2 hlt
      rw [HV.out] at e1
      injection e1 with e1 _ e3
      subst e1 e3
      have hd : dp[k]? = some (dp[k]'(by rw [HL.out]; exact hlt)) := List.getElem?_eq_getElem _
      generalize dp[k]'(by rw [HL.out]; exact hlt) = d at hd
      have HP := Lib.hid (inv_len I2 hd)
      have HS := Lib.hid (sumK_succ hd)
      have h8 := HOK.out d (List.mem_of_getElem? hd)
      have hb1 := sumK_le HOK.out k
      have hw : IntKind.i64.wrap ((sumK dp k : Int) + (d.l.length : Int)) = ((sumK dp (k + 1) : Nat) : Int) := by rw [HS.out, IntKind.wrap_i64]; have := h8.1; have := h8.2.2; omega
      have hk0 : (0 : Int) ≤ (k : Int) := by omega
      have hk1 : (k : Int) < (n : Int) := by omega
      clear hd I2 h8 hb1
      go_wp2_with (go_at_call 20; refine (HP.out).mono ?_; rintro e w2 ⟨rfl, hb⟩; replace HB := Lib.hid (HB.out.trans (hb.mono HB.out.size)); clear hb)
      go_roundw
      case rel => exact ⟨k + 1, by omega, by go_num, rfl, HB⟩
      case measure => (simp [intOf] <;> omega)
    · obtain rfl : k = n := by omega
      clear hlt
      go_wp2
      go_ret
      exact ⟨rfl, HB.out⟩
end
end Go.Proofs.Ythngbakbiocadaa
