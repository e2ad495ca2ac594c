/-
  Steps of one statement whose order Go leaves open: a new row of texts, a pair of texts, and what is appended to the row.
-/
import Derived.Test.YtedoafnjglikdaaTexts
import Derived.Deep.AppendLies
import Derived.OwnWalk
import Derived.Deep.RegionWith
namespace Go.Proofs.Ytedoafnjglikdaa
open Go.RowKit

theorem str_info : (Try.prog.info? 9).map (fun i => (i.zero, i.size, i.bytes)) = some (some (.string ⟨#[]⟩), 1, 16) := by kernel_rfl
def vals (ss : List ByteArray) : List Value := ss.map Value.string
theorem vals_one (ss : List ByteArray) : ∀ u ∈ vals ss, u.oneCell' = true := by
  intro u hu
  obtain ⟨s, _, rfl⟩ := List.mem_map.1 hu
  rfl
theorem vals_at (ss : List ByteArray) (j : Nat) (u : Value) (h : (vals ss)[j]? = some u) : j < ss.length ∧ u = .string (ss.getD j ByteArray.empty) := by
  unfold vals at h
  rw [List.getElem?_map] at h
  rcases Nat.lt_or_ge j ss.length with hj | hj
  · rw [List.getElem?_eq_getElem hj] at h
    refine ⟨hj, ?_⟩
    rw [List.getD_eq_getElem?_getD, List.getElem?_eq_getElem hj]
    exact (Option.some.inj h).symm
  · rw [List.getElem?_eq_none hj] at h; cases h
theorem vals_get (ss : List ByteArray) (j : Nat) (h : j < ss.length) : (vals ss)[j]? = some (.string (ss.getD j ByteArray.empty)) := by
  unfold vals
  rw [List.getElem?_map, List.getElem?_eq_getElem h, List.getD_eq_getElem?_getD, List.getElem?_eq_getElem h]; rfl

/-- block g is a pair of texts -/
def Pair (W : World) (g : Nat) (x y : ByteArray) : Prop := W.heap[g]? = some (.cells #[.string x, .string y] 9 (0, 0))
theorem Pair.new (W : World) (x y : ByteArray) : Pair (W.alloc (.cells #[.string x, .string y] 9)) W.heap.size x y := by
  show (W.heap.push _)[W.heap.size]? = _
  simp
theorem Pair.lt {W : World} {g : Nat} {x y : ByteArray} (h : Pair W g x y) : g < W.heap.size := by
  rcases Nat.lt_or_ge g W.heap.size with hlt | hge
  · exact hlt
  · unfold Pair at h; rw [Array.getElem?_eq_none hge] at h; cases h
theorem Pair.alloc {W : World} {g : Nat} {x y : ByteArray} (h : Pair W g x y) (o : Obj) : Pair (W.alloc o) g x y := (Below.heap_alloc W o g h.lt).trans h
theorem Pair.grown {W W' : World} {g : Nat} {x y : ByteArray} {row : Option Nat} (h : Pair W g x y) (hg : W.grownBy W' row) (hne : some g ≠ row) : Pair W' g x y := (hg.block g h.lt hne).trans h

/-- a new row -/
structure S4 (w W : World) (g : Nat) : Prop where
  bel : Below w.heap.size w W
  own : W.ownsRow w.heap.size 9 1 (.slice (some ⟨g, 0, none⟩) 0 0) 0 []
  lt : g < W.heap.size
theorem S4.new {w W : World} (h : Below w.heap.size w W) : S4 w (W.alloc (.cells #[] 9)) W.heap.size where
  bel := h.alloc h.size _
  own := ⟨rfl, .inr ⟨W.heap.size, 0, #[], rfl, h.size, by show (W.heap.push _)[W.heap.size]? = _; simp, Nat.le_refl _, Nat.zero_le _, rfl, rfl⟩⟩
  lt := by simp
theorem S4.alloc {w W : World} {g : Nat} (h : S4 w W g) (o : Obj) : S4 w (W.alloc o) g where
  bel := h.bel.alloc h.bel.size _
  own := h.own.alloc o
  lt := by have := h.lt; simp; omega
/-- a row with texts -/
structure S6 (w W : World) (v : Value) (n : Nat) (ss : List ByteArray) : Prop where
  bel : Below w.heap.size w W
  own : W.ownsRow w.heap.size 9 1 v n (vals ss)
theorem S6.alloc {w W : World} {v : Value} {n : Nat} {ss : List ByteArray} (h : S6 w W v n ss) (o : Obj) : S6 w (W.alloc o) v n ss :=
  ⟨h.bel.alloc h.bel.size _, h.own.alloc o⟩

theorem run_zero (W : World) (ty : TypeId) (A : Option Addr) (c g : Nat) :
    (Builtin.append_ #[23, 23] ty #[.slice (some ⟨g, 0, none⟩) 0 0, .slice A 0 c]).run Try.prog W = .ok (.slice (some ⟨g, 0, none⟩) 0 0) W := by
  obtain ⟨i, hi, _, _, _⟩ := info_parts str_info
  cases A with
  | none => simp [Builtin.append_, run_underlying Try.underlying23, sizeOf, typeInfo, hi, Builtin.lenOf, Builtin.firstCells, storeCells]
  | some x =>
    have hl : (loadCells x 0).run Try.prog W = .ok #[] W := run_loadCells_list (P := Try.prog) W x [] (fun j v hj => by simp at hj)
    simp [Builtin.append_, run_underlying Try.underlying23, sizeOf, typeInfo, hi, Builtin.lenOf, Builtin.firstCells, storeCells, hl]

/-- the texts of a row are appended to a new one; what else is there stays -/
theorem step6 {ops : Array Oper} {o : Oper} {a : Act} {K : Act → World → Prop} {Q : Exit → Act → World → Prop} {E : Prop} {w W : World} {g4 : Nat} {A : Option Addr} {n c : Nat} {ss : List ByteArray} (s x : Operand)
    (hgd : o.guard = none) (ho : o.op = .call { callee := .builtin .append, args := #[s, x], argTypes := #[23, 23] })
    (hs : a.eval s = .slice (some ⟨g4, 0, none⟩) 0 0) (hx : a.eval x = .slice A n c) (row : StrRow W A n ss) (st : S4 w W g4) (hn : n ≤ 60)
    (h : ∀ v' W', S6 w W' v' n ss → (∀ g x y, Pair W g x y → g ≠ g4 → Pair W' g x y) → K (a.put o.dst v') W') :
    if Region.wanted o (yielded ops a.tmps) = true then Oper.wp Try.prog o a W K Q else E := by
  by_cases h0 : n = 0
  · subst h0
    have hss : ss = [] := List.eq_nil_of_length_eq_zero row.len
    subst hss
    have hw : Region.wanted o (yielded ops a.tmps) = true := by simp [Region.wanted, hgd]
    rw [if_pos hw]
    unfold Oper.wp execOp
    simp only [ho, resolve, invoke, builtin, Sem.run_bind, Sem.run_pure, Result.andThen_ok, List.map_toArray, List.map_cons, List.map_nil, hs, hx, run_zero]
    exact h _ W ⟨st.bel, st.own⟩ (fun _ _ _ hp _ => hp)
  · obtain ⟨b, off, rfl, _, hc⟩ := row.cells (by omega)
    obtain ⟨i, hi, hz, hz1, hz2⟩ := info_parts str_info
    have hadd : ∀ j, (⟨b, off, none⟩ : Addr).add j = ⟨b, off + j, none⟩ := fun j => by unfold Addr.add; split <;> simp_all
    refine step_append_lies W hgd s x 23 ho w.heap.size 9 i _ 1 16 Try.underlying23 hi hz hz1 hz2 rfl (by omega) _ 0 [] hs st.own ⟨b, off, none⟩ n c (vals ss) hx
      (by unfold vals; rw [List.length_map, row.len, Nat.mul_one]) (fun j u hu => ?_) (vals_one ss) (by omega) (by unfold maxLen; omega) (by omega) st.bel.size _ rfl ?_
    · obtain ⟨hj, rfl⟩ := vals_at ss j u hu
      rw [hadd]; exact hc j (by rw [← row.len]; exact hj)
    · intro g cap W' hown hg _ _
      rw [Nat.zero_add, List.nil_append] at hown
      rw [Nat.zero_add]
      refine h _ W' ⟨st.bel.grown hg st.bel.size (fun k hk => ?_), hown⟩ (fun gp x y hp hne => hp.grown hg (by simpa [Value.ownBlock] using hne))
      have : g4 = k := by simpa [Value.ownBlock] using hk
      subst this
      obtain ⟨_, hh⟩ := st.own
      rcases hh with ⟨hh, _⟩ | ⟨g', cap', cur, hh, hb, _⟩
      · cases hh
      · have : g4 = g' := by injection hh with hh; injection hh with hh; injection hh
        omega

theorem row_of_own {w W : World} {g n cap : Nat} {ss : List ByteArray} (h : W.ownsRow w.heap.size 9 1 (.slice (some ⟨g, 0, none⟩) n cap) n (vals ss)) (hl : ss.length = n) (hn : n ≤ 100) (hlt : g < W.heap.size)
    (hf : ∀ i, (ss.getD i ByteArray.empty).size ≤ maxLen) : StrRow W (some ⟨g, 0, none⟩) n ss where
  len := hl
  small := by unfold maxLen; omega
  fit := hf
  cells := fun _ => ⟨g, 0, rfl, hlt, fun i hi => by
    rw [Nat.zero_add, h.cellAt i (by omega)]; exact vals_get ss i (by omega)⟩

/-- two texts more -/
theorem step14 {ops : Array Oper} {o : Oper} {a : Act} {K : Act → World → Prop} {Q : Exit → Act → World → Prop} {E : Prop} {w W : World} {g13 n c : Nat} {v : Value} {ss : List ByteArray} {p q : ByteArray} (s x : Operand)
    (hgd : o.guard = none) (ho : o.op = .call { callee := .builtin .append, args := #[s, x], argTypes := #[23, 23] })
    (hs : a.eval s = v) (hx : a.eval x = .slice (some ⟨g13, 0, none⟩) 2 c) (st : S6 w W v n ss) (pr : Pair W g13 p q) (hl : ss.length = n) (hn : n ≤ 60)
    (hf : ∀ i, ((ss ++ [p, q]).getD i ByteArray.empty).size ≤ maxLen)
    (h : ∀ g cap W', Below w.heap.size w W' → StrRow W' (some ⟨g, 0, none⟩) (n + 2) (ss ++ [p, q]) → K (a.put o.dst (.slice (some ⟨g, 0, none⟩) (n + 2) cap)) W') :
    if Region.wanted o (yielded ops a.tmps) = true then Oper.wp Try.prog o a W K Q else E := by
  obtain ⟨i, hi, hz, hz1, hz2⟩ := info_parts str_info
  refine step_append_lies W hgd s x 23 ho w.heap.size 9 i _ 1 16 Try.underlying23 hi hz hz1 hz2 rfl (by omega) v n (vals ss) hs st.own ⟨g13, 0, none⟩ 2 c (vals [p, q]) hx
    rfl (fun j u hu => ?_) (vals_one _) (by omega) (by unfold maxLen; omega) (by omega) st.bel.size _ rfl ?_
  · have hadd : (⟨g13, 0, none⟩ : Addr).add j = ⟨g13, j, none⟩ := by unfold Addr.add; split <;> simp_all
    rw [hadd, cell_of_row W g13 j _ 9 (0, 0) pr, ← hu]
    simp [vals]
  · intro g cap W' hown hg _ hlt
    have e : vals ss ++ vals [p, q] = vals (ss ++ [p, q]) := by simp [vals]
    rw [e] at hown
    refine h g cap W' (st.bel.grown hg st.bel.size (fun k hk => ?_)) (row_of_own (w := w) hown (by simp; omega) (by omega) hlt hf)
    rcases st.own.2 with ⟨rfl, _⟩ | ⟨g', cap', cur, rfl, hb, _⟩
    · cases hk
    · have : g' = k := by simpa [Value.ownBlock] using hk
      omega
end Go.Proofs.Ytedoafnjglikdaa
