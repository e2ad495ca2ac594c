/-
  Arguments that are heads, slices of heads, slices of pages, opened.
-/
import Derived.Test.YtlbadfeobpnlcaaHawake
import Derived.Deep.Slices
namespace Go.Proofs.Ytlbadfeobpnlcaa
open Go.ChangeShapes Go.WideShapes Go.ChangeAt Go.RowKit
open Hd (Head rightB pageH)

theorem cellsH : Try.prog.cellsOf 24 = 4 := by kernel_rfl
theorem cellsI : Try.prog.cellsOf 3 = 1 := by kernel_rfl
theorem cellsL : Try.prog.cellsOf 4 = 1 := by kernel_rfl
theorem cellsU : Try.prog.cellsOf 22 = 1 := by kernel_rfl
theorem head_cells {H : Type} {enc : TypeId × Value → H} {W : World} {base : Nat} {spare : Nat → Bool} {held : Bool} {fuel : Nat} {cs : List Value} {x : DataW H × List MemPlace} (ht : DataW.trod enc Try.prog W base spare held fuel 24 cs = some x) :
    ∃ h : Head, cs = headVals h ∧ 0 ≤ h.sum ∧ h.sum < 4294967296 := by
  obtain ⟨y0, y1, y2, y3, n, _, hcl, h0, h1, h2, h3⟩ := Joins.trod_struct4 Try.underlying24 ht
  rw [cellsH] at hcl
  obtain ⟨s, e0, _, _⟩ := DataW.trod_int Try.underlying3 h0
  obtain ⟨l, e1, _⟩ := DataW.trod_bool Try.underlying4 h1
  obtain ⟨c, e2, _, _⟩ := DataW.trod_int Try.underlying3 h2
  obtain ⟨m, e3, _, wm⟩ := DataW.trod_int Try.underlying22 h3
  have hb := bounds_u32 wm
  have c0 : (cs.drop 0).take (Try.prog.cellsOf 3) = [.int .i64 s] := e0
  have c1 : (cs.drop 1).take (Try.prog.cellsOf 4) = [.bool l] := e1
  have c2 : (cs.drop 2).take (Try.prog.cellsOf 3) = [.int .i64 c] := e2
  have c3 : (cs.drop 3).take (Try.prog.cellsOf 22) = [.int .u32 m] := e3
  rw [cellsI] at c0 c2
  rw [cellsL] at c1
  rw [cellsU] at c3
  refine ⟨⟨s, l, c, m⟩, ?_, hb.1, by have := hb.2; show m < _; omega⟩
  match cs, hcl with
  | [v0, v1, v2, v3], _ =>
    simp at c0 c1 c2 c3
    subst c0 c1 c2 c3
    rfl
theorem open_head {H : Type} {enc : TypeId × Value → H} {W : World} {base : Nat} {v : Value} {d : DataW H} {p : List MemPlace} (hv : Value.okWide Try.prog W .any base 24 v)
    (h : DataW.Trod enc Try.prog W 0 (fun _ => true) true 24 v d p) : ∃ g : Head, v = headV g ∧ 0 ≤ g.sum ∧ g.sum < 4294967296 := by
  obtain ⟨cs, rfl, hsz⟩ := okWide_struct Try.underlying24 hv
  obtain ⟨fuel, hf⟩ := h
  obtain ⟨g, he, hg⟩ := head_cells hf
  refine ⟨g, ?_, hg⟩
  rw [← headV_def, ← he]
  simp [Value.cells]

/-! ### rows -/
theorem list_of {α : Type} (P : Nat → α → Prop) : ∀ (n : Nat), (∀ i, i < n → ∃ a, P i a) → ∃ l : List α, l.length = n ∧ ∀ i, i < n → ∃ a, l[i]? = some a ∧ P i a
  | 0, _ => ⟨[], rfl, fun i hi => by omega⟩
  | n + 1, h => by
    obtain ⟨l, hl, hp⟩ := list_of P n (fun i hi => h i (by omega))
    obtain ⟨a, ha⟩ := h n (by omega)
    refine ⟨l ++ [a], by simp [hl], fun i hi => ?_⟩
    rcases Nat.lt_or_ge i n with hlt | hge
    · obtain ⟨x, hx, hpx⟩ := hp i hlt
      exact ⟨x, by rw [List.getElem?_append_left (by omega)]; exact hx, hpx⟩
    · obtain rfl : i = n := by omega
      exact ⟨a, by rw [List.getElem?_append_right (by omega), hl, Nat.sub_self]; rfl, ha⟩
/-- a row of pages in memory -/
structure PageRow (w : World) (A : Option Addr) (n : Nat) (ps : List (List UInt8)) : Prop where
  len : ps.length = n
  small : n ≤ maxLen
  size : ∀ p ∈ ps, p.length = 64
  cells : 0 < n → ∃ b off, A = some ⟨b, off, none⟩ ∧ b < w.heap.size ∧ ∀ i p, ps[i]? = some p → w.rangeAt b (off + i * 64) (byteVals p)
theorem PageRow.below {N : Nat} {w w' : World} {A : Option Addr} {n : Nat} {ps : List (List UInt8)} (h : PageRow w A n ps) (hb : Below N w w') (hN : ∀ b off, A = some ⟨b, off, none⟩ → b < N) : PageRow w' A n ps where
  len := h.len
  small := h.small
  size := h.size
  cells := fun hn => by
    obtain ⟨b, off, rfl, hlt, hc⟩ := h.cells hn
    have hbn := hN b off rfl
    exact ⟨b, off, rfl, Nat.lt_of_lt_of_le hlt hb.size, fun i p hi j v hv => (hb.cell (p := ⟨b, off + i * 64 + j, none⟩) hbn).trans (hc i p hi j v hv)⟩
theorem PageRow.step {w w' : World} {A : Option Addr} {n : Nat} {ps : List (List UInt8)} (h : PageRow w A n ps) (hb : Below w.heap.size w w') : PageRow w' A n ps where
  len := h.len
  small := h.small
  size := h.size
  cells := fun hn => by
    obtain ⟨b, off, rfl, hlt, hc⟩ := h.cells hn
    exact ⟨b, off, rfl, Nat.lt_of_lt_of_le hlt hb.size, fun i p hi j v hv => (hb.cell (p := ⟨b, off + i * 64 + j, none⟩) hlt).trans (hc i p hi j v hv)⟩
theorem open_pages {H : Type} {enc : TypeId × Value → H} {W : World} {base : Nat} {v : Value} {d : DataW H} {p : List MemPlace} (hv : Value.okWide Try.prog W .any base 37 v)
    (h : DataW.Trod enc Try.prog W 0 (fun _ => true) true 37 v d p) : ∃ A n c ps, v = .slice A n c ∧ PageRow W A n ps := by
  obtain ⟨A, n, c, rfl⟩ := okWide_slice Try.underlying37 hv
  obtain ⟨fuel, hf⟩ := h
  rcases Go.Deep.open_slice Try.underlying37 hf with ⟨hcs, _⟩ | ⟨a, len, cap, m, k, D, Pl, hcs, _, hl, hm, hmm, _, hi⟩
  · simp [Value.cells] at hcs
    obtain ⟨rfl, rfl, rfl⟩ := hcs
    exact ⟨_, _, _, [], rfl, rfl, by unfold maxLen; omega, fun p hp => absurd hp (by simp), fun hn => by omega⟩
  · simp [Value.cells] at hcs
    obtain ⟨rfl, rfl, rfl⟩ := hcs
    simp only [if_true] at hmm
    have each : ∀ i, i < n → ∃ q : List UInt8, q.length = 64 ∧ ∀ j u, (byteVals q)[j]? = some u → W.cell? ((a.add (i * 64)).add j) = some u := by
      intro i hin
      obtain ⟨cs, hc, ht⟩ := hi i (by omega)
      rw [cellsP] at hc
      obtain ⟨_, hcl, hat⟩ := World.cells?_some hc
      obtain ⟨l, hll, hl'⟩ := page_cells ht
      refine ⟨l, hll, fun j u hu => ?_⟩
      rw [← hl'] at hu
      have hj : j < 64 := by have := (List.getElem?_eq_some_iff.1 hu).1; omega
      rw [hat j hj, hu]
    obtain ⟨ps, hpl, hps⟩ := list_of _ n each
    have hget : ∀ i p, ps[i]? = some p → p.length = 64 ∧ ∀ j u, (byteVals p)[j]? = some u → W.cell? ((a.add (i * 64)).add j) = some u := by
      intro i p hp
      have hin : i < n := by have := (List.getElem?_eq_some_iff.1 hp).1; omega
      obtain ⟨q, hq, h1⟩ := hps i hin
      rw [hp] at hq
      injection hq with hq
      rw [hq]; exact h1
    refine ⟨_, _, _, ps, rfl, hpl, by omega, fun p hp => ?_, fun hn => ?_⟩
    · obtain ⟨i, hi', he⟩ := List.getElem_of_mem hp
      exact (hget i p (by rw [List.getElem?_eq_getElem hi', he])).1
    · obtain ⟨p0, hp0⟩ : ∃ p, ps[0]? = some p := ⟨_, List.getElem?_eq_getElem (by omega)⟩
      obtain ⟨b, off, spot⟩ := a
      obtain ⟨hz0, hc0⟩ := hget 0 p0 hp0
      have hcell0 := hc0 0 _ (byteVals_at _ 0 (by omega))
      have hspot : spot = none := by simpa [Addr.add] using World.cell?_spot hcell0
      subst hspot
      refine ⟨b, off, rfl, ?_, fun i p hp j u hu => ?_⟩
      · rw [Addr.add_mid, Addr.add_mid] at hcell0
        exact World.block_lt_of_cell? W _ hcell0
      · have := (hget i p hp).2 j u hu
        rw [Addr.add_mid, Addr.add_mid] at this
        exact this
/-- a row of heads in memory -/
structure HeadRow (w : World) (A : Option Addr) (n : Nat) (hs : List Head) : Prop where
  len : hs.length = n
  small : n ≤ maxLen
  ok : ∀ h ∈ hs, 0 ≤ h.sum ∧ h.sum < 4294967296
  cells : 0 < n → ∃ b off, A = some ⟨b, off, none⟩ ∧ b < w.heap.size ∧ ∀ i h, hs[i]? = some h → w.rangeAt b (off + i * 4) (headVals h)
theorem HeadRow.step {w w' : World} {A : Option Addr} {n : Nat} {hs : List Head} (h : HeadRow w A n hs) (hb : Below w.heap.size w w') : HeadRow w' A n hs where
  len := h.len
  small := h.small
  ok := h.ok
  cells := fun hn => by
    obtain ⟨b, off, rfl, hlt, hc⟩ := h.cells hn
    exact ⟨b, off, rfl, Nat.lt_of_lt_of_le hlt hb.size, fun i p hi j v hv => (hb.cell (p := ⟨b, off + i * 4 + j, none⟩) hlt).trans (hc i p hi j v hv)⟩
theorem open_heads {H : Type} {enc : TypeId × Value → H} {W : World} {base : Nat} {v : Value} {d : DataW H} {p : List MemPlace} (hv : Value.okWide Try.prog W .any base 45 v)
    (h : DataW.Trod enc Try.prog W 0 (fun _ => true) true 45 v d p) : ∃ A n c hs, v = .slice A n c ∧ HeadRow W A n hs := by
  obtain ⟨A, n, c, rfl⟩ := okWide_slice Try.underlying45 hv
  obtain ⟨fuel, hf⟩ := h
  rcases Go.Deep.open_slice Try.underlying45 hf with ⟨hcs, _⟩ | ⟨a, len, cap, m, k, D, Pl, hcs, _, hl, hm, hmm, _, hi⟩
  · simp [Value.cells] at hcs
    obtain ⟨rfl, rfl, rfl⟩ := hcs
    exact ⟨_, _, _, [], rfl, rfl, by unfold maxLen; omega, fun p hp => absurd hp (by simp), fun hn => by omega⟩
  · simp [Value.cells] at hcs
    obtain ⟨rfl, rfl, rfl⟩ := hcs
    simp only [if_true] at hmm
    have each : ∀ i, i < n → ∃ g : Head, (0 ≤ g.sum ∧ g.sum < 4294967296) ∧ ∀ j u, (headVals g)[j]? = some u → W.cell? ((a.add (i * 4)).add j) = some u := by
      intro i hin
      obtain ⟨cs, hc, ht⟩ := hi i (by omega)
      rw [cellsH] at hc
      obtain ⟨_, hcl, hat⟩ := World.cells?_some hc
      obtain ⟨l, hl', hll⟩ := head_cells ht
      refine ⟨l, hll, fun j u hu => ?_⟩
      rw [← hl'] at hu
      have hj : j < 4 := by have := (List.getElem?_eq_some_iff.1 hu).1; omega
      rw [hat j hj, hu]
    obtain ⟨ps, hpl, hps⟩ := list_of _ n each
    have hget : ∀ i p, ps[i]? = some p → (0 ≤ p.sum ∧ p.sum < 4294967296) ∧ ∀ j u, (headVals p)[j]? = some u → W.cell? ((a.add (i * 4)).add j) = some u := by
      intro i p hp
      have hin : i < n := by have := (List.getElem?_eq_some_iff.1 hp).1; omega
      obtain ⟨q, hq, h1⟩ := hps i hin
      rw [hp] at hq
      injection hq with hq
      rw [hq]; exact h1
    refine ⟨_, _, _, ps, rfl, hpl, by omega, fun p hp => ?_, fun hn => ?_⟩
    · obtain ⟨i, hi', he⟩ := List.getElem_of_mem hp
      exact (hget i p (by rw [List.getElem?_eq_getElem hi', he])).1
    · obtain ⟨p0, hp0⟩ : ∃ p, ps[0]? = some p := ⟨_, List.getElem?_eq_getElem (by omega)⟩
      obtain ⟨b, off, spot⟩ := a
      obtain ⟨hz0, hc0⟩ := hget 0 p0 hp0
      have hcell0 := hc0 0 (.int .i64 p0.seq) rfl
      have hspot : spot = none := by simpa [Addr.add] using World.cell?_spot hcell0
      subst hspot
      refine ⟨b, off, rfl, ?_, fun i p hp j u hu => ?_⟩
      · rw [Addr.add_mid, Addr.add_mid] at hcell0
        exact World.block_lt_of_cell? W _ hcell0
      · have := (hget i p hp).2 j u hu
        rw [Addr.add_mid, Addr.add_mid] at this
        exact this
end Go.Proofs.Ytlbadfeobpnlcaa
