/-
  Entries, and values of four words, held against each other.
-/
import Derived.Test.YtkomehplcacbcaaZopen
namespace Go.Proofs.Ytkomehplcacbcaa
open Go.RowKit Go.Maps

def intVals (l : List Int) : List Value := l.map (Value.int .i64)
theorem infoI : ∃ i, Try.prog.info? 3 = some i := by
  have h : (Try.prog.info? 3).isSome = true := by kernel_rfl
  exact Option.isSome_iff_exists.1 h
theorem run_partI (w : World) (l : List Int) (i : Nat) (h : i < l.length) : (part 3 (intVals l).toArray i).run Try.prog w = .ok (.int .i64 l[i]) w := by
  have e : ((intVals l).toArray)[i]? = some (.int .i64 l[i]) := by
    rw [List.getElem?_toArray]
    unfold intVals
    rw [List.getElem?_map, List.getElem?_eq_getElem h]; rfl
  have ha : (isAgg 3).run Try.prog w = .ok false w := by kernel_rfl
  unfold part
  rw [Sem.run_bind, ha]
  simp only [Result.andThen_ok, e]
  rfl
theorem run_eqInts (w : World) (p q : List Int) (hl : p.length = q.length) (d : Nat) : ∀ (n i : Nat), i + n = p.length →
    (Op.eqItems (d + 1) 3 1 (intVals p).toArray (intVals q).toArray (List.range' i n)).run Try.prog w = .ok (decide (p.drop i = q.drop i)) w
  | 0, i, h => by
    rw [List.range'_zero, Op.eqItems, List.drop_of_length_le (by omega), List.drop_of_length_le (by omega)]; rfl
  | n + 1, i, h => by
    have hp : i < p.length := by omega
    have hq : i < q.length := by omega
    have e1 := run_partI w p i hp
    have e2 := run_partI w q i hq
    have e3 := run_equalIn_int (P := Try.prog) w d 3 .i64 .i64 p[i] q[i] Try.underlying3
    have ih := run_eqInts w p q hl d n (i + 1) (by omega)
    rw [List.range'_succ, Op.eqItems, Nat.mul_one]
    simp only [Sem.run_bind, e1, e2, e3, Result.andThen_ok]
    have dp : p.drop i = p[i] :: p.drop (i + 1) := List.drop_eq_getElem_cons hp
    have dq : q.drop i = q[i] :: q.drop (i + 1) := List.drop_eq_getElem_cons hq
    by_cases c : p[i] = q[i]
    · have c1 : (p[i] == q[i]) = true := by rw [c]; exact beq_self_eq_true _
      rw [c1]
      simp only [Bool.not_true, Bool.false_eq_true, if_false]
      rw [ih]
      congr 1
      rw [dp, dq, decide_eq_decide, c, List.cons.injEq]
      exact ⟨fun h => ⟨rfl, h⟩, fun h => h.2⟩
    · have c1 : (p[i] == q[i]) = false := beq_eq_false_iff_ne.2 c
      rw [c1]
      simp only [Bool.not_false, if_true]
      rw [Sem.run_pure]
      congr 1
      rw [dp, dq]
      symm
      rw [decide_eq_false_iff_not]
      intro e
      exact c (by injection e)
theorem run_eqFour (f : Nat) (t : TypeId) (ht : t = 39 ∨ t = 38) (w : World) (a b c d a' b' c' d' : Int) : (Op.equalIn (f + 2) t (.agg #[.int .i64 a, .int .i64 b, .int .i64 c, .int .i64 d]) (.agg #[.int .i64 a', .int .i64 b', .int .i64 c', .int .i64 d'])).run Try.prog w = .ok (decide ([a, b, c, d] = [a', b', c', d'])) w := by
  obtain ⟨i, hi⟩ := infoI
  have hu : Try.prog.underlying t = some (.array 4 3) := by
    rcases ht with rfl | rfl
    · exact Try.underlying39
    · exact Try.underlying38
  rw [run_equalIn_array w (f + 1) _ _ hu hi, cellsI, List.range_eq_range']
  exact run_eqInts w [a, b, c, d] [a', b', c', d'] rfl f 4 0 rfl
theorem run_neqw (x : Z.En) (w : World) : (binOp .neq 39 (.agg (wordsL x).toArray) (.agg (wordsL x).toArray)).run Try.prog w = .ok (.bool false) w := by
  obtain ⟨k, a, b, c, d⟩ := x
  unfold wordsL
  have h4 := run_eqFour 9998 39 (Or.inl rfl) w a b c d a b c d
  rw [decide_eq_true rfl] at h4
  go_simp
theorem run_negw (p q : Operand) (x : Z.En) (w : World) : (eqGuard .neq 39 p q (.agg (wordsL x).toArray) (.agg (wordsL x).toArray)).run Try.prog w = .ok () w := run_eqGuard_agg w .neq _ p q _ _ (by kernel_rfl)
theorem en_eq_iff (x y : Z.En) : x = y ↔ x.key = y.key ∧ [x.a, x.b, x.c, x.d] = [y.a, y.b, y.c, y.d] := by
  obtain ⟨a, b, c, d, e⟩ := x
  obtain ⟨p, q, r, s, t⟩ := y
  simp
theorem run_neq_en (w : World) (x y : Z.En) : (binOp .neq 67 (enV x) (enV y)).run Try.prog w = .ok (.bool (!decide (x = y))) w := by
  have e : decide (x = y) = decide (x.key = y.key ∧ [x.a, x.b, x.c, x.d] = [y.a, y.b, y.c, y.d]) := decide_eq_decide.2 (en_eq_iff x y)
  have h4 := run_eqFour 9997 38 (Or.inr rfl) w x.a x.b x.c x.d y.a y.b y.c y.d
  rw [e]
  unfold enV enL
  go_simp
  by_cases h1 : x.key = y.key <;> by_cases h2 : x.a = y.a <;> by_cases h3 : x.b = y.b <;> by_cases h4 : x.c = y.c <;> by_cases h5 : x.d = y.d <;> simp [h1, h2, h3, h4, h5]
theorem run_ngd_en (x y : Operand) (p q : Z.En) (w : World) : (eqGuard .neq 67 x y (enV p) (enV q)).run Try.prog w = .ok () w := run_eqGuard_agg w .neq _ x y _ _ (by kernel_rfl)
end Go.Proofs.Ytkomehplcacbcaa
