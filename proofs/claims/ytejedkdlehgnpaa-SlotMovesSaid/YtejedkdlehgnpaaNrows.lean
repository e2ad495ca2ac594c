/-
  Rows in memory that calls leave alone, as many as one likes; the document's example.
-/
import Derived.Test.YtejedkdlehgnpaaNrget
namespace Go.Proofs.Ytejedkdlehgnpaa
open Go.RowKit

structure RowsS (w0 : World) (l : List (Nat × List Value)) (W : World) : Prop where
  rows : ∀ x ∈ l, RowAt W x.1 x.2 ∧ 0 < x.2.length
  below : Below w0.heap.size w0 W
theorem rows_lt {W : World} {b : Nat} {vs : List Value} (k : RowAt W b vs) (h : 0 < vs.length) : b < W.heap.size :=
  World.block_lt_of_cell? W _ (k.cell 0 _ (List.getElem?_eq_getElem h))
theorem RowsS.call {w0 : World} {l : List (Nat × List Value)} {W W' : World} (k : RowsS w0 l W) (hb : Below W.heap.size W W') : RowsS w0 l W' :=
  ⟨fun x hx => ⟨(k.rows x hx).1.below hb (rows_lt (k.rows x hx).1 (k.rows x hx).2), (k.rows x hx).2⟩, k.below.trans (hb.mono k.below.size)⟩
theorem RowsS.drew {w0 : World} {l : List (Nat × List Value)} {W : World} (k : RowsS w0 l W) : RowsS w0 l W.drew :=
  ⟨fun x hx => ⟨(k.rows x hx).1.drew, (k.rows x hx).2⟩, k.below.drew⟩
theorem RowsS.drewN {w0 : World} {l : List (Nat × List Value)} {W : World} (k : RowsS w0 l W) (n : Nat) : RowsS w0 l (W.drewN n) := k.call (below_drewN W n)
theorem RowsS.add {w0 : World} {l : List (Nat × List Value)} {W W2 : World} {vs : List Value} (k : RowsS w0 l W) (hb : Below W.heap.size W W2) (hr : RowAt W2 W.heap.size vs) (h : 0 < vs.length) : RowsS w0 ((W.heap.size, vs) :: l) W2 where
  rows := fun x hx => by
    rcases List.mem_cons.1 hx with rfl | hx
    · exact ⟨hr, h⟩
    · exact (k.call hb).rows x hx
  below := (k.call hb).below
theorem RowsS.at0 {w0 : World} {l : List (Nat × List Value)} {W : World} {b : Nat} {vs : List Value} (k : RowsS w0 ((b, vs) :: l) W) : RowAt W b vs := (k.rows _ (List.mem_cons_self ..)).1
theorem RowsS.tl {w0 : World} {l : List (Nat × List Value)} {W : World} {x : Nat × List Value} (k : RowsS w0 (x :: l) W) : RowsS w0 l W := ⟨fun y hy => k.rows y (List.mem_cons_of_mem _ hy), k.below⟩
theorem rows_page {W : World} {b : Nat} {p : List UInt8} (k : RowAt W b (byteVals p)) (hp : p.length = 64) : PageAt W b p where
  len := hp
  range := k.range
  free := by
    have := k.free
    rwa [byteVals_length, hp] at this
theorem page_rows {W : World} {b : Nat} {p : List UInt8} (k : PageAt W b p) : RowAt W b (byteVals p) where
  range := k.range
  free := by
    rw [byteVals_length, k.len]
    exact k.free

/-- the walk over a region of one class, closed against being run: where many operations are passed over, the open one runs through them at each step -/
structure Wq (ops : Array Oper) (C : World → Prop) (Q : Act → Prop) (l : List Oper) (a : Act) : Prop where
  open_ : wpQuiet Try.prog ops C Q l a
section
variable {ops : Array Oper} {rest : List Oper} {op : Oper} {a : Act} {Q : Act → Prop} {C : World → Prop}
theorem wq_region {id : Nat} {Q : Exit → Act → World → Prop} {w : World} {l : List Oper} (hB : Region.lexB .any l.toArray = true) (hC : C { w with drawn := w.drawn + 1 })
    (h : Wq l.toArray C (fun a' => ∀ w', C w' → Q .normal a' w') l a) : (Code.region id l.toArray true).wp Try.prog Q a w := wp_region_class hB hC h.open_
theorem wq_nil (h : Q a) : Wq ops C Q [] a := ⟨wpQuiet_nil h⟩
theorem wq_pass (hw : Region.wanted op (yielded ops a.tmps) = false) (h : Wq ops C Q rest (a.put op.dst undef)) : Wq ops C Q (op :: rest) a := ⟨BigFrame.wpQuiet_skip hw h.open_⟩
theorem wq_take (v : Value) (hw : Region.wanted op (yielded ops a.tmps) = true) (hrun : ∀ w, C w → (execOp a.eval op).run Try.prog w = .ok (.value v) w)
    (h : Wq ops C Q rest (a.put op.dst v)) : Wq ops C Q (op :: rest) a := ⟨wpQuiet_take v hw hrun h.open_⟩
theorem wq_call (f : FuncId) (args : Array Value) (v : Value) (hw : Region.wanted op (yielded ops a.tmps) = true) (hrun : ∀ w, (execOp a.eval op).run Try.prog w = .ok (.enter f args) w)
    (hcall : ∀ w, C w → Calls Try.prog f args w fun e w' => e = .returned v ∧ C w') (h : Wq ops C Q rest (a.put op.dst v)) : Wq ops C Q (op :: rest) a := ⟨wpQuiet_call f args v hw hrun hcall h.open_⟩
theorem wq_row {t : TypeId} {n b : Nat} {vs : List Value} (ht : RowT t n) (hl : vs.length = n) (x : Operand) (ho : op.op = .load t x) (hx : a.eval x = .pointer (some ⟨b, 0, none⟩)) (hw : Region.wanted op (yielded ops a.tmps) = true)
    (hC : ∀ w, C w → RowAt w b vs) (h : Wq ops C Q rest (a.put op.dst (.agg vs.toArray))) : Wq ops C Q (op :: rest) a := ⟨wpQuiet_row ht hl x ho hx hw hC h.open_⟩
theorem wq_page {b : Nat} {p : List UInt8} (x : Operand) (ho : op.op = .load 32 x) (hx : a.eval x = .pointer (some ⟨b, 0, none⟩)) (hw : Region.wanted op (yielded ops a.tmps) = true)
    (hC : ∀ w, C w → PageAt w b p) (h : Wq ops C Q rest (a.put op.dst (pageV p))) : Wq ops C Q (op :: rest) a := ⟨wpQuiet_page x ho hx hw hC h.open_⟩
end
/-! ### entries held against each other -/
theorem run_eql_ent (t : TypeId) (ht : t = 23 ∨ t = 30) (n m : Int) (s r : ByteArray) (w : World) : (binOp .eql t (entV n s) (entV m r)).run Try.prog w = .ok (.bool (n == m && s.toList == r.toList)) w := by
  have h := run_ents t ht n m s r w
  unfold entV at h ⊢
  rw [run_eql_struct, h]; rfl
theorem run_neq_ent (t : TypeId) (ht : t = 23 ∨ t = 30) (n m : Int) (s r : ByteArray) (w : World) : (binOp .neq t (entV n s) (entV m r)).run Try.prog w = .ok (.bool (!(n == m && s.toList == r.toList))) w := by
  have h := run_ents t ht n m s r w
  unfold entV at h ⊢
  rw [run_neq_struct, h]; rfl
theorem run_egd_ent (t : TypeId) (ht : t = 23 ∨ t = 30) (x y : Operand) (n m : Int) (s r : ByteArray) (w : World) : (eqGuard .eql t x y (entV n s) (entV m r)).run Try.prog w = .ok () w := by
  rcases ht with rfl | rfl <;> exact run_eqGuard_agg w .eql _ x y _ _ (by kernel_rfl)
theorem run_ngd_ent (t : TypeId) (ht : t = 23 ∨ t = 30) (x y : Operand) (n m : Int) (s r : ByteArray) (w : World) : (eqGuard .neq t x y (entV n s) (entV m r)).run Try.prog w = .ok () w := by
  rcases ht with rfl | rfl <;> exact run_eqGuard_agg w .neq _ x y _ _ (by kernel_rfl)
/-- a comparison whose two sides are known -/
theorem run_held {ρ : Operand → Value} {op : Oper} {o : BinOp} {t u : TypeId} {x y : Operand} {A B r : Value} {w : World} (ho : op.op = .binOp o t x y u) (hx : ρ x = A) (hy : ρ y = B) (hg : (eqGuard o t x y A B).run Try.prog w = .ok () w) (hb : (binOp o t A B).run Try.prog w = .ok r w) :
    (execOp ρ op).run Try.prog w = .ok (.value r) w := by
  unfold execOp
  simp only [ho, hx, hy, Sem.run_bind, hg, hb, Result.andThen_ok, Sem.run_map, Sem.run_pure]
theorem ent_refl (n : Int) (s : ByteArray) : (n == n && s.toList == s.toList) = true := by simp

/-! ### the document's example -/
def exq : List UInt8 := putF zeros 1 258 [97, 98]
theorem ex_ent : Nm.ent (Nm.at_ exq 1) = some (258, [97, 98]) := by decide
theorem ex_cells : exq.getD 16 0 = 1 ∧ exq.getD 17 0 = 2 ∧ exq.getD 18 0 = 2 ∧ exq.getD 19 0 = 97 ∧ exq.getD 20 0 = 98 := by decide
theorem ex_length : exq.length = 64 := by decide
set_option maxRecDepth 100000 in
set_option maxHeartbeats 4000000 in
theorem awake_any (w : World) : Calls Try.prog 8 #[] w fun e w' => e = .returned (.bool true) ∧ Below w.heap.size w w' := by
  have HP := Lib.hid (fun w => put_any zeros 1 258 ⟨#[97, 98]⟩ w zeros_length (by decide))
  change Hid (∀ w, Calls Try.prog 13 #[.agg zeroCells, .int .i64 1, .agg #[.int .i64 258, .string ⟨#[97, 98]⟩]] w fun e w' => e = .returned (pageV exq) ∧ Below w.heap.size w w') at HP
  rw [zeroCells_def] at HP
  have HG := Lib.hid (fun w => get_at exq 1 w ex_length (by decide))
  rw [ex_ent] at HG
  change Hid (∀ w, Calls Try.prog 14 #[pageV exq, .int .i64 1] w fun e w' => e = .returned (.tuple #[.agg (entL 258 ⟨#[97, 98]⟩).toArray, .int .i64 0]) ∧ Below w.heap.size w w') at HG
  have HL := Lib.hid ex_length
  have HC := Lib.hid ex_cells
  generalize exq = q at HP HG HL HC
  have E1 : ∀ (x y : Operand) (w : World), (eqGuard .eql 23 x y (.agg (entL 258 ⟨#[97, 98]⟩).toArray) (.agg #[.int .i64 258, .string ⟨#[97, 98]⟩])).run Try.prog w = .ok () w := fun x y w => run_egd_ent _ (Or.inl rfl) x y 258 258 ⟨#[97, 98]⟩ ⟨#[97, 98]⟩ w
  have E2 : ∀ (w : World), (binOp .eql 23 (.agg (entL 258 ⟨#[97, 98]⟩).toArray) (.agg #[.int .i64 258, .string ⟨#[97, 98]⟩])).run Try.prog w = .ok (.bool true) w := fun w => (run_eql_ent _ (Or.inl rfl) 258 258 ⟨#[97, 98]⟩ ⟨#[97, 98]⟩ w).trans (by rw [ent_refl])
  go_enter Try.func8, Try.ntmps8
  go_wp2_with (first
    | (go_at_call 13; (with_reducible refine (HP.out _).mono ?_); rintro e w1 ⟨rfl, hb1⟩)
    | ((with_reducible refine wpList_store_new rfl (.tmp 1) (.tmp 6) rfl rfl ?_ ?_ HL.out ?_); (exact rfl); (exact rfl); intro W2 hP hb2 hz2; have S : Hid (PageAt W2 w1.heap.size q ∧ Below w.heap.size w W2) := Lib.hid ⟨hP, hb1.trans (hb2.mono hb1.size)⟩; clear hP hb2 hz2 hb1; generalize w1.heap.size = D at S ⊢)
    | (with_reducible refine wpList_load_page S.out.1 rfl (.tmp 1) rfl rfl ?_)
    | (go_at_call 14; (with_reducible refine (HG.out _).mono ?_); rintro e w3 ⟨rfl, hb⟩; replace S := Lib.hid (And.intro (S.out.1.step hb) (S.out.2.trans (hb.mono S.out.2.size))); clear hb)
    | ((with_reducible refine wpList_store_newrow entT (vs := entL 258 ⟨#[97, 98]⟩) (entL_len _ _) (entL_one _ _) rfl (.tmp 2) (.tmp 10) rfl rfl ?_ ?_ ?_); (exact rfl); (exact rfl); intro W4 hP hb hz; have T := Lib.hid hP; replace S := Lib.hid (And.intro (S.out.1.step hb) (S.out.2.trans (hb.mono S.out.2.size))); clear hP hb hz; generalize w3.heap.size = E at T ⊢; obtain ⟨d0, d1, d2, d3, d4⟩ := HC.out; have c0 := S.out.1.cell 16 (by decide); have c1 := S.out.1.cell 17 (by decide); have c2 := S.out.1.cell 18 (by decide); have c3 := S.out.1.cell 19 (by decide); have c4 := S.out.1.cell 20 (by decide); rw [d0] at c0; rw [d1] at c1; rw [d2] at c2; rw [d3] at c3; rw [d4] at c4; clear d0 d1 d2 d3 d4)
    | ((with_reducible refine wpList_loadg_row entT T.out (entL_len _ _) (.tmp 2) rfl rfl ?_ ?_); (exact rfl)))
  go_ret
  exact ⟨rfl, S.out.2⟩
end Go.Proofs.Ytejedkdlehgnpaa
