/-
  Instructions in memory.
-/
import Derived.Test.YteobdjgodljjmaaAbase
import Derived.Test.YteobdjgodljjmaaYmath
namespace Go.Proofs.Yteobdjgodljjmaa
open Go.ChangeShapes Go.WideShapes Go.ChangeAt Go.RowKit Go.Maps

def inL (x : Y.In) : List Value := [.int .i64 x.op, .int .i64 x.dst, .int .i64 x.src, .int .i64 x.off, .int .i64 x.imm]
theorem inL_length (x : Y.In) : (inL x).length = 5 := rfl
theorem inL_one (x : Y.In) : ∀ v ∈ inL x, v.oneCell' = true := by
  intro v hv
  simp only [inL, List.mem_cons, List.not_mem_nil, or_false] at hv
  rcases hv with rfl | rfl | rfl | rfl | rfl <;> rfl
def inV (x : Y.In) : Value := .agg (inL x).toArray
theorem inV_def (x : Y.In) : Value.agg (inL x).toArray = inV x := rfl
theorem inT : RowT 42 5 := ⟨⟨_, Try.underlying42, rfl⟩, by kernel_rfl⟩
theorem rinT : RowT 43 5 := ⟨⟨_, Try.underlying43, rfl⟩, by kernel_rfl⟩
theorem cellsI : Try.prog.cellsOf 3 = 1 := by kernel_rfl
theorem cellsIn : Try.prog.cellsOf 42 = 5 := by kernel_rfl
theorem in_cells {H : Type} {enc : TypeId × Value → H} {W : World} {fuel : Nat} {base : Nat} {spare : Nat → Bool} {held : Bool} {cs : List Value} {z : DataW H × List MemPlace} (ht : DataW.trod enc Try.prog W base spare held fuel 42 cs = some z) :
    ∃ x : Y.In, cs = inL x := by
  obtain ⟨xs, n, _, rfl, hcl, hlen, hf⟩ := DataW.trod_struct Try.underlying42 ht
  rw [cellsIn] at hcl
  match xs, hlen with
  | [y0, y1, y2, y3, y4], _ =>
    obtain ⟨a0, e0, _, _⟩ := DataW.trod_int Try.underlying3 (hf 0 _ rfl)
    obtain ⟨a1, e1, _, _⟩ := DataW.trod_int Try.underlying3 (hf 1 _ rfl)
    obtain ⟨a2, e2, _, _⟩ := DataW.trod_int Try.underlying3 (hf 2 _ rfl)
    obtain ⟨a3, e3, _, _⟩ := DataW.trod_int Try.underlying3 (hf 3 _ rfl)
    obtain ⟨a4, e4, _, _⟩ := DataW.trod_int Try.underlying3 (hf 4 _ rfl)
    have c0 : (cs.drop 0).take (Try.prog.cellsOf 3) = [.int .i64 a0] := e0
    have c1 : (cs.drop 1).take (Try.prog.cellsOf 3) = [.int .i64 a1] := e1
    have c2 : (cs.drop 2).take (Try.prog.cellsOf 3) = [.int .i64 a2] := e2
    have c3 : (cs.drop 3).take (Try.prog.cellsOf 3) = [.int .i64 a3] := e3
    have c4 : (cs.drop 4).take (Try.prog.cellsOf 3) = [.int .i64 a4] := e4
    rw [cellsI] at c0 c1 c2 c3 c4
    refine ⟨⟨a0, a1, a2, a3, a4⟩, ?_⟩
    match cs, hcl with
    | [v0, v1, v2, v3, v4], _ =>
      simp at c0 c1 c2 c3 c4
      subst c0 c1 c2 c3 c4
      rfl
/-- instructions that lie in a slice -/
structure InsAt (w : World) (A : Option Addr) (n : Nat) (xs : List Y.In) : Prop where
  len : xs.length = n
  rows : ManyAt w A 5 (xs.map inL)
theorem InsAt.step {w w' : World} {A : Option Addr} {n : Nat} {xs : List Y.In} (h : InsAt w A n xs) (hb : Below w.heap.size w w') : InsAt w' A n xs := ⟨h.len, h.rows.step hb⟩
theorem InsAt.get {w : World} {A : Option Addr} {n : Nat} {xs : List Y.In} (h : InsAt w A n xs) (k : Nat) (hk : k < n) : ∃ b off x, A = some ⟨b, off, none⟩ ∧ b < w.heap.size ∧ xs[k]? = some x ∧ w.rangeAt b (off + k * 5) (inL x) := by
  obtain ⟨b, off, e, hb, hc⟩ := h.rows.cells (by rw [List.length_map, h.len]; omega)
  have hx : xs[k]? = some (xs[k]'(by rw [h.len]; exact hk)) := List.getElem?_eq_getElem _
  exact ⟨b, off, _, e, hb, hx, hc k _ (by rw [List.getElem?_map, hx]; rfl)⟩
theorem open_ins {H : Type} {enc : TypeId × Value → H} {W : World} {base : Nat} {v : Value} {d : DataW H} {p : List MemPlace} (hv : Value.okWide Try.prog W .any base 22 v)
    (h : DataW.Trod enc Try.prog W 0 (fun _ => true) true 22 v d p) : ∃ A n c xs, v = .slice A n c ∧ (n ≤ c ∧ c ≤ maxLen) ∧ InsAt W A n xs := by
  obtain ⟨A, n, c, rs, rfl, hl, hm, hg, hr⟩ := open_many (z := 5) (by decide) Try.underlying22 cellsIn (fun cs => ∃ x : Y.In, cs = inL x) (fun m k cs x ht => in_cells ht) (fun cs ⟨q, he⟩ => by rw [he]; rfl) hv h
  have : ∀ rs : List (List Value), (∀ r ∈ rs, ∃ x : Y.In, r = inL x) → ∃ xs : List Y.In, rs = xs.map inL := by
    intro rs
    induction rs with
    | nil => intro _; exact ⟨[], rfl⟩
    | cons r t ih =>
      intro hr
      obtain ⟨q, e⟩ := hr r (List.mem_cons_self ..)
      obtain ⟨ps, e2⟩ := ih (fun x hx => hr x (List.mem_cons_of_mem _ hx))
      exact ⟨q :: ps, by rw [e, e2]; rfl⟩
  obtain ⟨xs, e⟩ := this rs hg
  exact ⟨A, n, c, xs, rfl, hm, by rw [← hl, e, List.length_map], e ▸ hr⟩

/-! ### rows of ints -/
def intVals (l : List Int) : List Value := l.map (Value.int .i64)
/-- ints in a slice that starts a block -/
structure IntsAt (w : World) (b : Nat) (zs : List Int) : Prop where
  cells : ∀ j z, zs[j]? = some z → w.cell? ⟨b, j, none⟩ = some (.int .i64 z)
theorem intsAt_new (w : World) (zs : List Int) (t : TypeId) : IntsAt (w.alloc (.cells (intVals zs).toArray t)) w.heap.size zs := ⟨fun j z h => by
  have := (rowAt_new w (intVals zs) t).range j (.int .i64 z) (by unfold intVals; rw [List.getElem?_map, h]; rfl)
  rwa [Nat.zero_add] at this⟩

/-! ### a row that grows: rows of five cells, appended one by one to a slice of the call's own -/
theorem info_in : (Try.prog.info? 42).map (fun i => (i.zero, i.size, i.bytes)) = some (some (.agg #[.int .i64 0, .int .i64 0, .int .i64 0, .int .i64 0, .int .i64 0]), 5, 40) := by kernel_rfl
theorem info_rin : (Try.prog.info? 43).map (fun i => (i.zero, i.size, i.bytes)) = some (some (.agg #[.int .i64 0, .int .i64 0, .int .i64 0, .int .i64 0, .int .i64 0]), 5, 40) := by kernel_rfl
def cellsOf (xs : List Y.In) : List Value := xs.flatMap inL
theorem cellsOf_length (xs : List Y.In) : (cellsOf xs).length = xs.length * 5 := by
  induction xs with
  | nil => rfl
  | cons b t ih => unfold cellsOf at ih ⊢; rw [List.flatMap_cons, List.length_append, ih, inL_length, List.length_cons]; omega
theorem cellsOf_snoc (xs : List Y.In) (x : Y.In) : cellsOf (xs ++ [x]) = cellsOf xs ++ inL x := by unfold cellsOf; simp
theorem cellsOf_at : ∀ (xs : List Y.In) (i : Nat) (x : Y.In) (j : Nat) (v : Value), xs[i]? = some x → (inL x)[j]? = some v → (cellsOf xs)[i * 5 + j]? = some v
  | [], i, x, j, v, hx, _ => by simp at hx
  | y :: r, 0, x, j, v, hx, hv => by
    simp at hx
    subst hx
    have hj : j < 5 := (List.getElem?_eq_some_iff.1 hv).1
    unfold cellsOf
    rw [List.flatMap_cons, Nat.zero_mul, Nat.zero_add, List.getElem?_append_left (by rw [inL_length]; exact hj)]
    exact hv
  | y :: r, i + 1, x, j, v, hx, hv => by
    have := cellsOf_at r i x j v (by simpa using hx) hv
    unfold cellsOf at this ⊢
    rw [List.flatMap_cons, List.getElem?_append_right (by rw [inL_length]; omega), inL_length, show (i + 1) * 5 + j - 5 = i * 5 + j by omega]
    exact this
/-- what a call owns are instructions that lie there -/
theorem owns_ins {w : World} {base : Nat} {t : TypeId} {A : Option Addr} {n c : Nat} {xs : List Y.In} (h : w.ownsRow base t 5 (.slice A n c) n (cellsOf xs)) (hn : n = xs.length) : InsAt w A n xs := ⟨hn.symm, ⟨fun h0 => by
  rw [List.length_map] at h0
  obtain ⟨h1, h2⟩ := h
  rcases h2 with ⟨e, e2⟩ | ⟨g, cap, cur, e, hb, hg, _, _, hsz, htk⟩
  · exfalso; omega
  · injection e with e _ _
    refine ⟨g, 0, e, (Array.getElem?_eq_some_iff.1 hg).1, fun i x hxi j v hv => ?_⟩
    rw [List.getElem?_map] at hxi
    obtain ⟨b, hbi, rfl⟩ := Option.map_eq_some_iff.1 hxi
    have hf := cellsOf_at xs i b j v hbi hv
    rw [← htk] at hf
    have hlt : i * 5 + j < n * 5 := by
      have := (List.getElem?_eq_some_iff.1 hf).1
      rw [List.length_take] at this; omega
    rw [List.getElem?_take_of_lt hlt] at hf
    simp only [World.cell?, hg, Nat.zero_add]
    simp only [Option.isSome_none, Bool.false_eq_true, if_false]
    rw [← Array.getElem?_toList]
    exact hf⟩⟩
/-- between the rounds of a loop that appends: its own row, and nothing else that was there is changed -/
structure GrS (w0 : World) (t : TypeId) (l : Value) (xs : List Y.In) (W : World) : Prop where
  own : W.ownsRow w0.heap.size t 5 l xs.length (cellsOf xs)
  bel : Below w0.heap.size w0 W
theorem grS_start (w : World) (t : TypeId) : GrS w t (.slice none 0 0) [] w := ⟨⟨rfl, Or.inl ⟨rfl, rfl⟩⟩, Below.refl _ _⟩
theorem GrS.call {w0 : World} {t : TypeId} {l : Value} {xs : List Y.In} {W W' : World} (k : GrS w0 t l xs W) (hb : Below W.heap.size W W') : GrS w0 t l xs W' := ⟨owns_below k.own hb, k.bel.trans (hb.mono k.bel.size)⟩
theorem GrS.grow {w0 : World} {t : TypeId} {l l' : Value} {xs : List Y.In} {x : Y.In} {W W' : World} (k : GrS w0 t l xs W) (hg : W.grownBy W' l.ownBlock) (hown : W'.ownsRow w0.heap.size t 5 l' (xs.length + 1) (cellsOf xs ++ inL x)) : GrS w0 t l' (xs ++ [x]) W' where
  own := by
    rw [cellsOf_snoc, List.length_append]
    exact hown
  bel := k.bel.grown hg k.bel.size (fun j hj => (k.own.lt j hj).1)
theorem run_oneIn (t st : TypeId) (ht : t = 42 ∧ st = 22 ∨ t = 43 ∧ st = 24) (x : Y.In) (w : World) : (Instr.buildSlice st 1 #[(0, inV x)]).run Try.prog w = .ok (.slice (some ⟨w.heap.size, 0, none⟩) 1 1) (w.alloc (.cells (inL x).toArray t)) := by
  rcases ht with ⟨rfl, rfl⟩ | ⟨rfl, rfl⟩
  · unfold inV inL
    go_simp
  · unfold inV inL
    go_simp
theorem exec_oneIn {t st : TypeId} (ht : t = 42 ∧ st = 22 ∨ t = 43 ∧ st = 24) {ρ : Operand → Value} {op : Oper} {w : World} {x : Y.In} (y : Operand) (ho : op.op = .buildSlice st 1 #[(0, y)]) (hy : ρ y = .agg (inL x).toArray) :
    (execOp ρ op).run Try.prog w = .ok (.value (.slice (some ⟨w.heap.size, 0, none⟩) 1 1)) (w.alloc (.cells (inL x).toArray t)) := by
  have hr := run_oneIn t st ht x w
  have hy' : ρ y = inV x := hy
  unfold execOp
  simp only [ho, List.map_toArray, List.map_cons, List.map_nil, hy', Sem.run_bind, hr, Result.andThen_ok, Sem.run_pure]
theorem wpList_oneIn {t st : TypeId} (ht : t = 42 ∧ st = 22 ∨ t = 43 ∧ st = 24) {ops : Array Oper} {rest : List Oper} {op : Oper} {a : Act} {Q : Exit → Act → World → Prop} {w : World} {x : Y.In} (hgd : op.guard = none) (y : Operand) (ho : op.op = .buildSlice st 1 #[(0, y)]) (hy : a.eval y = .agg (inL x).toArray)
    (h : wpList Try.prog ops Q rest (a.put op.dst (.slice (some ⟨w.heap.size, 0, none⟩) 1 1)) (w.alloc (.cells (inL x).toArray t))) : wpList Try.prog ops Q (op :: rest) a w :=
  wpList_plain hgd fun _ hK => by
    have hr := run_oneIn t st ht x w
    have hy' : a.eval y = inV x := hy
    have : (execOp a.eval op).run Try.prog w = .ok (.value (.slice (some ⟨w.heap.size, 0, none⟩) 1 1)) (w.alloc (.cells (inL x).toArray t)) := by
      unfold execOp
      simp only [ho, List.map_toArray, List.map_cons, List.map_nil, hy', Sem.run_bind, hr, Result.andThen_ok, Sem.run_pure]
    unfold Oper.wp
    rw [this]
    exact hK _ _ h
end Go.Proofs.Yteobdjgodljjmaa
