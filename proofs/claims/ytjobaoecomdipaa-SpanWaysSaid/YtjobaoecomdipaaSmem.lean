/-
  Rows of numbers in memory, arguments that are ways or rows of numbers, opened; a map that counts pages of numbers.
-/
import Derived.Test.YtjobaoecomdipaaSleaf
import Derived.Test.YtjobaoecomdipaaPopen
import Derived.Deep.Slices
import Derived.Maps.OwnSet
import Derived.Maps.OwnOps
import Derived.Lib.SmallJoins
namespace Go.Proofs.Ytjobaoecomdipaa
open Go.ChangeShapes Go.WideShapes Go.ChangeAt Go.RowKit Go.Maps

theorem cellsI : Try.prog.cellsOf 3 = 1 := by kernel_rfl
theorem way_cells {H : Type} {enc : TypeId × Value → H} {W : World} {fuel : Nat} {base : Nat} {spare : Nat → Bool} {held : Bool} {cs : List Value} {z : DataW H × List MemPlace} (ht : DataW.trod enc Try.prog W base spare held fuel 24 cs = some z) :
    ∃ d o n : Int, cs = wayL d o n := by
  obtain ⟨xs, n, _, rfl, hcl, hlen, hf⟩ := DataW.trod_struct Try.underlying24 ht
  have hC : Try.prog.cellsOf 24 = 3 := by kernel_rfl
  rw [hC] at hcl
  match xs, hlen with
  | [y0, y1, y2], _ =>
    obtain ⟨d, e0, _, _⟩ := DataW.trod_int Try.underlying3 (hf 0 _ rfl)
    obtain ⟨o, e1, _, _⟩ := DataW.trod_int Try.underlying3 (hf 1 _ rfl)
    obtain ⟨m, e2, _, _⟩ := DataW.trod_int Try.underlying3 (hf 2 _ rfl)
    have c0 : (cs.drop 0).take (Try.prog.cellsOf 3) = [.int .i64 d] := e0
    have c1 : (cs.drop 1).take (Try.prog.cellsOf 3) = [.int .i64 o] := e1
    have c2 : (cs.drop 2).take (Try.prog.cellsOf 3) = [.int .i64 m] := e2
    rw [cellsI] at c0 c1 c2
    refine ⟨d, o, m, ?_⟩
    match cs, hcl with
    | [v0, v1, v2], _ =>
      simp at c0 c1 c2
      subst c0 c1 c2
      rfl
theorem okWide_struct' {P : Program} {w : World} {r : Reach} {base : Nat} {t : TypeId} {v : Value} {fs : _} (ht : P.underlying t = some (.struct fs)) (h : Value.okWide P w r base t v) : ∃ cs, v = .agg cs ∧ cs.size = P.cellsOf t := by
  simp only [Value.okWide, ht] at h
  obtain ⟨cs, h1, h2, _⟩ := h
  exact ⟨cs, h1, h2⟩
theorem open_way {H : Type} {enc : TypeId × Value → H} {W : World} {base : Nat} {v : Value} {d : DataW H} {p : List MemPlace} (hv : Value.okWide Try.prog W .any base 24 v)
    (h : DataW.Trod enc Try.prog W 0 (fun _ => true) true 24 v d p) : ∃ x o n : Int, v = wayV x o n := by
  obtain ⟨cs, rfl, hsz⟩ := okWide_struct Try.underlying24 hv
  obtain ⟨fuel, hf⟩ := h
  obtain ⟨x, o, n, he⟩ := way_cells hf
  refine ⟨x, o, n, ?_⟩
  rw [← wayV_def, ← he]
  simp [Value.cells]

/-! ### rows of numbers -/
theorem list_of {α : Type} (P : Nat → α → Prop) : ∀ (n : Nat), (∀ i, i < n → ∃ a, P i a) → ∃ l : List α, l.length = n ∧ ∀ i, i < n → ∃ a, l[i]? = some a ∧ P i a
  | 0, _ => ⟨[], rfl, fun i hi => by omega⟩
  | n + 1, h => by
    obtain ⟨l, hl, hp⟩ := list_of P n (fun i hi => h i (by omega))
    obtain ⟨a, ha⟩ := h n (by omega)
    refine ⟨l ++ [a], by simp [hl], fun i hi => ?_⟩
    rcases Nat.lt_or_ge i n with hlt | hge
    · obtain ⟨x, hx, hpx⟩ := hp i hlt
      exact ⟨x, by rw [List.getElem?_append_left (by omega)]; exact hx, hpx⟩
    · obtain rfl : i = n := by omega
      exact ⟨a, by rw [List.getElem?_append_right (by omega), hl, Nat.sub_self]; rfl, ha⟩
structure IntRow (w : World) (A : Option Addr) (n : Nat) (xs : List Int) : Prop where
  len : xs.length = n
  small : n ≤ maxLen
  cells : 0 < n → ∃ b off, A = some ⟨b, off, none⟩ ∧ b < w.heap.size ∧ ∀ i x, xs[i]? = some x → w.cell? ⟨b, off + i, none⟩ = some (.int .i64 x)
theorem IntRow.step {w w' : World} {A : Option Addr} {n : Nat} {xs : List Int} (h : IntRow w A n xs) (hb : Below w.heap.size w w') : IntRow w' A n xs where
  len := h.len
  small := h.small
  cells := fun h0 => by
    obtain ⟨b, off, rfl, hlt, hc⟩ := h.cells h0
    exact ⟨b, off, rfl, Nat.lt_of_lt_of_le hlt hb.size, fun i x hx => (hb.cell (p := ⟨b, off + i, none⟩) hlt).trans (hc i x hx)⟩
theorem open_ints {H : Type} {enc : TypeId × Value → H} {W : World} {base : Nat} {v : Value} {d : DataW H} {p : List MemPlace} (hv : Value.okWide Try.prog W .any base 34 v)
    (h : DataW.Trod enc Try.prog W 0 (fun _ => true) true 34 v d p) : ∃ A n c xs, v = .slice A n c ∧ IntRow W A n xs := by
  obtain ⟨A, n, c, rfl⟩ := okWide_slice Try.underlying34 hv
  obtain ⟨fuel, hf⟩ := h
  rcases Go.Deep.open_slice Try.underlying34 hf with ⟨hcs, _⟩ | ⟨a, len, cap, m, k, D, Pl, hcs, _, hl, hm, hmm, _, hi⟩
  · simp [Value.cells] at hcs
    obtain ⟨rfl, rfl, rfl⟩ := hcs
    exact ⟨_, _, _, [], rfl, rfl, by unfold maxLen; omega, fun hn => by omega⟩
  · simp [Value.cells] at hcs
    obtain ⟨rfl, rfl, rfl⟩ := hcs
    simp only [if_true] at hmm
    have each : ∀ i, i < n → ∃ q : Int, W.cell? (a.add i) = some (.int .i64 q) := by
      intro i hin
      obtain ⟨cs', hc, ht'⟩ := hi i (by omega)
      rw [cellsI, Nat.mul_one] at hc
      obtain ⟨v, hv, _, _⟩ := DataW.trod_int Try.underlying3 ht'
      obtain ⟨_, _, hat⟩ := World.cells?_some hc
      have h0 := hat 0 (by omega)
      rw [hv] at h0
      have e0 : (a.add i).add 0 = a.add i := by unfold Addr.add; cases a.spot <;> simp
      rw [e0] at h0
      exact ⟨v, h0⟩
    obtain ⟨xs, hxl, hxs⟩ := list_of _ n each
    have hget : ∀ i x, xs[i]? = some x → W.cell? (a.add i) = some (.int .i64 x) := by
      intro i x hx
      have hin : i < n := by have := (List.getElem?_eq_some_iff.1 hx).1; omega
      obtain ⟨q, hq, h1⟩ := hxs i hin
      rw [hx] at hq
      injection hq with hq
      rw [hq]; exact h1
    refine ⟨_, _, _, xs, rfl, hxl, by omega, fun hn => ?_⟩
    obtain ⟨x0, hx0⟩ : ∃ x, xs[0]? = some x := ⟨_, List.getElem?_eq_getElem (by omega)⟩
    obtain ⟨b, off, spot⟩ := a
    have hcell0 := hget 0 x0 hx0
    have hspot : spot = none := by simpa [Addr.add] using World.cell?_spot hcell0
    subst hspot
    refine ⟨b, off, rfl, ?_, fun i x hx => ?_⟩
    · rw [Addr.add_mid] at hcell0
      exact World.block_lt_of_cell? W _ hcell0
    · have := hget i x hx
      rwa [Addr.add_mid] at this

/-! ### the map -/
structure SetIs (D : DataW Unit) (s : Sp.St) : Prop where
  has : ∀ i : Int, Maps.has D (.int .i64 i) = s.has i
  size : Maps.size D = s.cnt
def SetAt (w : World) (b : Nat) (s : Sp.St) : Prop := ∃ D, w.ownsMap Try.prog 3 unitElem b (Maps.size D) D ∧ SetIs D s
theorem keyLaw : Keyed Try.prog 3 := int_keyed Try.underlying3
theorem wf_i64 {i : Int} (h1 : -9223372036854775808 ≤ i) (h2 : i ≤ 9223372036854775807) : (Lit.int .i64 i).wf = true := WalkArith.wf_i64 (by omega)
theorem SetAt.block {w w' : World} {b : Nat} {s : Sp.St} (h : SetAt w b s) (hb : w'.heap[b]? = w.heap[b]?) : SetAt w' b s := by
  obtain ⟨D, ⟨es, clock, h1, h2⟩, h3⟩ := h
  exact ⟨D, ⟨es, clock, hb.trans h1, h2⟩, h3⟩
theorem SetAt.lt {w : World} {b : Nat} {s : Sp.St} (h : SetAt w b s) : b < w.heap.size := by
  obtain ⟨D, h1, _⟩ := h
  exact h1.lt
theorem SetAt.step {w w' : World} {b : Nat} {s : Sp.St} (h : SetAt w b s) (hb : Below w.heap.size w w') : SetAt w' b s := h.block (hb.block b h.lt)
theorem tight {w : World} {b n : Nat} {D : DataW Unit} (h : w.ownsMap Try.prog 3 unitElem b n D) : w.ownsMap Try.prog 3 unitElem b (Maps.size D) D := by
  obtain ⟨es, clock, hb, F, hs, rfl⟩ := h
  exact ⟨es, clock, hb, F, by simp [Maps.size, length_sorted], rfl⟩
theorem none_has (i : Int) : Sp.St.none.has i = false := by
  unfold Sp.St.has Sp.St.none
  split
  · rfl
  · split <;> rfl
theorem setAt_made (w : World) : SetAt (w.alloc (.map #[] 0)) w.heap.size Sp.St.none := by
  refine ⟨.map [], World.ownsMap_made _ _ _ _, ?_, ?_⟩
  · intro i
    rw [has_eq, none_has]
    simp
  · rfl
theorem SetAt.len {w : World} {b : Nat} {s : Sp.St} (h : SetAt w b s) (ty : TypeId) : (Builtin.len_ #[47] ty #[.map (some b)]).run Try.prog w = .ok (.int .i64 (s.cnt : Int)) w := by
  obtain ⟨D, h1, h3⟩ := h
  rw [h1.len Try.underlying47, h3.size]
theorem SetAt.store {w : World} {b : Nat} {s : Sp.St} (h : SetAt w b s) (hc : s.cnt ≤ 1000) (k : Int) (h1 : -1000 ≤ k) (h2 : k ≤ 1000) :
    ∃ w', (Instr.mapUpdate 47 (.map (some b)) (.int .i64 k) (.agg #[])).run Try.prog w = .ok () w' ∧ SetAt w' b (s.put k) ∧ w.mapTurned w' b := by
  obtain ⟨D, h0, h3⟩ := h
  obtain ⟨w', hrun, hown, hturn⟩ := h0.store (t := 47) (e := 49) keyLaw Try.underlying47 (by rw [h3.size]; unfold maxLen; omega) (key := .int .i64 k) (val := .agg #[]) (keyOf_int_mk Try.underlying3 (wf_i64 (by omega) (by omega))) unitElem_mk
  refine ⟨w', hrun, ⟨_, tight hown, ?_, ?_⟩, hturn⟩
  · intro j
    rw [Sp.has_put]
    by_cases e : j = k
    · subst e
      rw [has_put_same (k := .int .i64 j) h0.isMap trivial]; simp
    · rw [has_put_other (fun q => e (by injection q)), h3.has, show (j == k) = false by simpa using e]; rfl
  · rw [size_put (h0.tidy keyLaw), h3.has, Sp.cnt_put, h3.size]
theorem turn_below {w wr wr' : World} {mb : Nat} (hb : Below w.heap.size w wr) (hm : w.heap.size ≤ mb) (ht : wr.mapTurned wr' mb) : Below w.heap.size w wr' :=
  hb.grown ht.grown hb.size (fun k e => by cases e; exact hm)
/-- a row lies on through a turn of the map -/
theorem IntRow.turned {w w' : World} {A : Option Addr} {n b : Nat} {xs : List Int} (h : IntRow w A n xs) (ht : w.mapTurned w' b) : IntRow w' A n xs where
  len := h.len
  small := h.small
  cells := fun h0 => by
    have hg := ht.grown
    obtain ⟨k, off, e, hlt, hc⟩ := h.cells h0
    refine ⟨k, off, e, Nat.lt_of_lt_of_le hlt hg.size, fun i x hx => ?_⟩
    refine hg.cell (hc i x hx) ?_
    intro q
    injection q with q
    have c0 := hc i x hx
    obtain ⟨es, clock, _, _, hb, _⟩ := ht
    unfold World.cell? at c0
    have q' : k = b := q
    rw [q', hb] at c0
    simp at c0
end Go.Proofs.Ytjobaoecomdipaa
