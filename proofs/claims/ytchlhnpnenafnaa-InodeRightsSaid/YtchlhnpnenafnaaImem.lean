/-
  Inodes in memory; inodes held against each other; the four numbers in the midst of one.
-/
import Derived.Test.YtchlhnpnenafnaaImath
import Derived.Test.YtchlhnpnenafnaaLleaf
namespace Go.Proofs.Ytchlhnpnenafnaa
open Go.RowKit
open Ii (Ino)

theorem inoT : RowT 26 11 := ⟨⟨_, Try.underlying26, rfl⟩, by kernel_rfl⟩
theorem rinoT : RowT 31 11 := ⟨⟨_, Try.underlying31, rfl⟩, by kernel_rfl⟩
theorem attrT : RowT 44 6 := ⟨⟨_, Try.underlying44, rfl⟩, by kernel_rfl⟩
def inoL (x : Ino) : List Value := [.int .i64 x.k, .int .i64 x.p, .int .i64 x.u, .int .i64 x.l, .int .i64 x.s, .int .i64 x.a, .int .i64 x.b, .int .i64 x.c, .int .i64 x.d, .int .i64 x.e, .int .i64 x.f]
theorem inoL_one (x : Ino) : ∀ v ∈ inoL x, v.oneCell' = true := by
  intro v hv
  simp only [inoL, List.mem_cons, List.not_mem_nil, or_false] at hv
  rcases hv with rfl | rfl | rfl | rfl | rfl | rfl | rfl | rfl | rfl | rfl | rfl <;> rfl
def inoV (x : Ino) : Value := .agg #[.int .i64 x.k, .int .i64 x.p, .int .i64 x.u, .int .i64 x.l, .int .i64 x.s, .int .i64 x.a, .int .i64 x.b, .int .i64 x.c, .int .i64 x.d, .int .i64 x.e, .int .i64 x.f]
theorem inoV_def (x : Ino) : Value.agg (inoL x).toArray = inoV x := rfl
def attrL (n : Int) (x : Ino) : List Value := [.int .i64 n, .int .i64 x.k, .int .i64 x.p, .int .i64 x.u, .int .i64 x.l, .int .i64 x.s]
theorem attrL_one (n : Int) (x : Ino) : ∀ v ∈ attrL n x, v.oneCell' = true := by
  intro v hv
  simp only [attrL, List.mem_cons, List.not_mem_nil, or_false] at hv
  rcases hv with rfl | rfl | rfl | rfl | rfl | rfl <;> rfl
def attrV (n : Int) (x : Ino) : Value := .agg #[.int .i64 n, .int .i64 x.k, .int .i64 x.p, .int .i64 x.u, .int .i64 x.l, .int .i64 x.s]

/-! ### held against each other -/
theorem infoI : ∃ i, Try.prog.info? 3 = some i := by
  cases h : Try.prog.info? 3 with
  | none => have e : (Try.prog.info? 3).isSome = true := by kernel_rfl
            rw [h] at e; cases e
  | some i => exact ⟨i, rfl⟩
theorem cellsI : Try.prog.cellsOf 3 = 1 := by kernel_rfl
def intVals (l : List Int) : List Value := l.map fun n => Value.int .i64 n
theorem run_partI (w : World) (p : List Int) (i : Nat) (h : i < p.length) : (part 3 (intVals p).toArray i).run Try.prog w = .ok (.int .i64 p[i]) w := by
  have e : ((intVals p).toArray)[i]? = some (.int .i64 p[i]) := by
    rw [List.getElem?_toArray]
    unfold intVals
    rw [List.getElem?_map, List.getElem?_eq_getElem h]; rfl
  have ha : (isAgg 3).run Try.prog w = .ok false w := by
    unfold isAgg
    rw [Sem.run_bind, run_underlying Try.underlying3 w]; rfl
  unfold part
  rw [Sem.run_bind, ha]
  simp only [Result.andThen_ok, e]
  rfl
theorem run_eqInts (w : World) (p q : List Int) (hl : p.length = q.length) (d : Nat) : ∀ (n i : Nat), i + n = p.length →
    (Op.eqItems (d + 1) 3 1 (intVals p).toArray (intVals q).toArray (List.range' i n)).run Try.prog w = .ok (decide (p.drop i = q.drop i)) w
  | 0, i, h => by
    rw [List.range'_zero, Op.eqItems, List.drop_of_length_le (by omega), List.drop_of_length_le (by omega)]; rfl
  | n + 1, i, h => by
    have hp : i < p.length := by omega
    have hq : i < q.length := by omega
    have e1 := run_partI w p i hp
    have e2 := run_partI w q i hq
    have e3 := run_equalIn_int (P := Try.prog) w d 3 .i64 .i64 p[i] q[i] Try.underlying3
    have ih := run_eqInts w p q hl d n (i + 1) (by omega)
    rw [List.range'_succ, Op.eqItems, Nat.mul_one]
    simp only [Sem.run_bind, e1, e2, e3, Result.andThen_ok]
    have dp : p.drop i = p[i] :: p.drop (i + 1) := List.drop_eq_getElem_cons hp
    have dq : q.drop i = q[i] :: q.drop (i + 1) := List.drop_eq_getElem_cons hq
    by_cases c : p[i] = q[i]
    · have c1 : (p[i] == q[i]) = true := by rw [c]; exact beq_self_eq_true _
      rw [c1]
      simp only [Bool.not_true, Bool.false_eq_true, if_false]
      rw [ih]
      congr 1
      rw [dp, dq, decide_eq_decide, c, List.cons.injEq]
      exact ⟨fun h => ⟨rfl, h⟩, fun h => h.2⟩
    · have c1 : (p[i] == q[i]) = false := beq_eq_false_iff_ne.2 c
      rw [c1]
      simp only [Bool.not_false, if_true]
      rw [Sem.run_pure]
      congr 1
      rw [dp, dq]
      symm
      rw [decide_eq_false_iff_not]
      intro e
      exact c (by injection e)
theorem run_eqFour (w : World) (a b c d a' b' c' d' : Int) : (Op.equalIn 9999 24 (.agg #[.int .i64 a, .int .i64 b, .int .i64 c, .int .i64 d]) (.agg #[.int .i64 a', .int .i64 b', .int .i64 c', .int .i64 d'])).run Try.prog w = .ok (decide ([a, b, c, d] = [a', b', c', d'])) w := by
  obtain ⟨i, hi⟩ := infoI
  rw [run_equalIn_array w 9998 _ _ Try.underlying24 hi, cellsI, List.range_eq_range']
  exact run_eqInts w [a, b, c, d] [a', b', c', d'] rfl 9997 4 0 rfl
theorem run_eql_ino (w : World) (x : Ino) : (binOp .eql 26 (inoV x) (inoV x)).run Try.prog w = .ok (.bool true) w := by
  unfold inoV
  have h4 := run_eqFour w x.a x.b x.c x.d x.a x.b x.c x.d
  rw [decide_eq_true rfl] at h4
  go_simp
theorem run_eql_rino (w : World) (x : Ino) : (binOp .eql 31 (inoV x) (inoV x)).run Try.prog w = .ok (.bool true) w := by
  unfold inoV
  have h4 := run_eqFour w x.a x.b x.c x.d x.a x.b x.c x.d
  rw [decide_eq_true rfl] at h4
  go_simp
theorem run_eql_attr (w : World) (n : Int) (x : Ino) : (binOp .eql 44 (attrV n x) (attrV n x)).run Try.prog w = .ok (.bool true) w := by
  unfold attrV
  go_simp
theorem run_eqGuard_ino (w : World) (a b : Operand) (x y : Ino) : (eqGuard .eql 26 a b (inoV x) (inoV y)).run Try.prog w = .ok () w :=
  run_eqGuard_agg w .eql 26 a b _ _ (by kernel_rfl)
theorem run_eqGuard_rino (w : World) (a b : Operand) (x y : Ino) : (eqGuard .eql 31 a b (inoV x) (inoV y)).run Try.prog w = .ok () w :=
  run_eqGuard_agg w .eql 31 a b _ _ (by kernel_rfl)
theorem run_eqGuard_attr (w : World) (a b : Operand) (n m : Int) (x y : Ino) : (eqGuard .eql 44 a b (attrV n x) (attrV m y)).run Try.prog w = .ok () w :=
  run_eqGuard_agg w .eql 44 a b _ _ (by kernel_rfl)
theorem run_zero_ino (w : World) (x : Ino) : (binOp .eql 26 (inoV x) (inoV Ii.zero)).run Try.prog w = .ok (.bool (Ii.zeroB x)) w := by
  unfold inoV
  have h4 := run_eqFour w x.a x.b x.c x.d 0 0 0 0
  unfold Ii.zero
  go_simp
  unfold Ii.zeroB
  clear h4
  repeat' split
  all_goals
    congr 2
    symm
    first
      | (rw [decide_eq_true_iff]; omega)
      | (rw [decide_eq_false_iff_not]; omega)
theorem run_zero_rino (w : World) (x : Ino) : (binOp .eql 31 (inoV x) (inoV Ii.zero)).run Try.prog w = .ok (.bool (Ii.zeroB x)) w := by
  unfold inoV
  have h4 := run_eqFour w x.a x.b x.c x.d 0 0 0 0
  unfold Ii.zero
  go_simp
  unfold Ii.zeroB
  clear h4
  repeat' split
  all_goals
    congr 2
    symm
    first
      | (rw [decide_eq_true_iff]; omega)
      | (rw [decide_eq_false_iff_not]; omega)

/-! ### what stands in memory at Put: the page, the inode, the page that is handed back -/
structure PutS (w0 : World) (q z : List UInt8) (x : Ino) (W : World) : Prop where
  page : PageAt W w0.heap.size q
  ino : RowAt W (w0.heap.size + 1) (inoL x)
  out : PageAt W (w0.heap.size + 2) z
  below : Below w0.heap.size w0 W
theorem PutS.call {w0 : World} {q z : List UInt8} {x : Ino} {W W' : World} (k : PutS w0 q z x W) (hb : Below W.heap.size W W') : PutS w0 q z x W' :=
  ⟨k.page.step hb, RowAt.step k.ino hb, k.out.step hb, k.below.trans (hb.mono k.below.size)⟩
theorem PutS.store {w0 : World} {q z p : List UInt8} {x : Ino} {W : World} (k : PutS w0 q z x W) (hp : p.length = 64) : PutS w0 p z x (W.setCells w0.heap.size 0 (byteVals p)) :=
  ⟨k.page.put p hp, k.ino.put_other _ _ _ (by omega), k.out.put_other _ _ _ (by omega), below_setCells _ (Nat.le_refl _) _ _ _ k.below⟩
theorem PutS.back {w0 : World} {q z p : List UInt8} {x : Ino} {W : World} (k : PutS w0 q z x W) (hp : p.length = 64) : PageAt (W.setCells (w0.heap.size + 2) 0 (byteVals p)) (w0.heap.size + 2) p ∧ Below w0.heap.size w0 (W.setCells (w0.heap.size + 2) 0 (byteVals p)) :=
  ⟨k.out.put p hp, below_setCells _ (by omega) _ _ _ k.below⟩
theorem putS_box (w : World) (p : List UInt8) (x : Ino) (t : TypeId) (hp : p.length = 64) :
    PutS w p zeros x (((w.alloc (.cells (byteVals p).toArray 23)).alloc (.cells (inoL x).toArray t)).alloc (.cells zeroCells 23)) where
  page := ((pageAt_new w p _ hp).alloc _).alloc _
  ino := by
    have h := (rowAt_new (w.alloc (.cells (byteVals p).toArray 23)) (inoL x) t).alloc (.cells zeroCells 23)
    rw [World.size_alloc] at h
    exact h
  out := by
    have h := pageAt_zeros ((w.alloc (.cells (byteVals p).toArray 23)).alloc (.cells (inoL x).toArray t)) 23
    rw [World.size_alloc, World.size_alloc] at h
    exact h
  below := (((Below.refl _ _).alloc (Nat.le_refl _) _).alloc (by simp) _).alloc (by simp; omega) _
/-- a page is stored over the page -/
theorem wpList_store_put {ops : Array Oper} {rest : List Oper} {op : Oper} {a : Act} {Q : Exit → Act → World → Prop} {w0 W : World} {q z p : List UInt8} {x : Ino} (k : PutS w0 q z x W) (hp : p.length = 64) (hgd : op.guard = none) (u v : Operand) (ho : op.op = .store 23 u v)
    (hx : a.eval u = .pointer (some ⟨w0.heap.size, 0, none⟩)) (hy : a.eval v = pageV p) (h : ∀ W2, PutS w0 p z x W2 → wpList Try.prog ops Q rest (a.put op.dst undef) W2) : wpList Try.prog ops Q (op :: rest) a W :=
  wpList_store_page k.page hp hgd u v ho hx hy (h _ (k.store hp))
end Go.Proofs.Ytchlhnpnenafnaa
