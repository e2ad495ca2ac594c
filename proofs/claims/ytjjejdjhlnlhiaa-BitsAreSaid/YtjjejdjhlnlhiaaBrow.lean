/-
  Pages in memory as bytes one behind the other: a row that is read, a row of one's own; a slice of pages, opened.
-/
import Derived.Test.YtjjejdjhlnlhiaaDpage
import Derived.Test.YtjjejdjhlnlhiaaBmath
import Derived.Deep.Slices
import Derived.Deep.AppendLies
import Derived.Laws.OwnMore
import Derived.Laws.AppendOwnNone
import Derived.ProofKit
import Derived.OpenShut
import Derived.ChangeOld
namespace Go.Proofs.Ytjjejdjhlnlhiaa
open Go.ChangeShapes Go.WideShapes Go.ChangeAt Go.RowKit

theorem list_of {α : Type} (P : Nat → α → Prop) : ∀ (n : Nat), (∀ i, i < n → ∃ a, P i a) → ∃ l : List α, l.length = n ∧ ∀ i, i < n → ∃ a, l[i]? = some a ∧ P i a
  | 0, _ => ⟨[], rfl, fun i hi => by omega⟩
  | n + 1, h => by
    obtain ⟨l, hl, hp⟩ := list_of P n (fun i hi => h i (by omega))
    obtain ⟨a, ha⟩ := h n (by omega)
    refine ⟨l ++ [a], by simp [hl], fun i hi => ?_⟩
    rcases Nat.lt_or_ge i n with hlt | hge
    · obtain ⟨x, hx, hpx⟩ := hp i hlt
      exact ⟨x, by rw [List.getElem?_append_left (by omega)]; exact hx, hpx⟩
    · obtain rfl : i = n := by omega
      exact ⟨a, by rw [List.getElem?_append_right (by omega), hl, Nat.sub_self]; rfl, ha⟩
/-- a row of pages in memory: their bytes -/
structure Row (w : World) (A : Option Addr) (n : Nat) (bs : List UInt8) : Prop where
  len : bs.length = 64 * n
  small : n ≤ maxLen
  nul : A = none → n = 0
  cells : 0 < n → ∃ b off, A = some ⟨b, off, none⟩ ∧ b < w.heap.size ∧ ∀ j, j < 64 * n → w.cell? ⟨b, off + j, none⟩ = some (.int .u8 ((bs.getD j 0).toNat : Int))
theorem Row.keep {w w' : World} {A : Option Addr} {n : Nat} {bs : List UInt8} (h : Row w A n bs) (hs : w.heap.size ≤ w'.heap.size) (hb : 0 < n → ∀ b off, A = some ⟨b, off, none⟩ → b < w.heap.size → w'.heap[b]? = w.heap[b]?) : Row w' A n bs where
  len := h.len
  small := h.small
  nul := h.nul
  cells := fun hn => by
    obtain ⟨b, off, rfl, hlt, hc⟩ := h.cells hn
    exact ⟨b, off, rfl, Nat.lt_of_lt_of_le hlt hs, fun j hj => (World.cell?_of_block (a := ⟨b, off + j, none⟩) (hb hn b off rfl hlt)).trans (hc j hj)⟩
theorem Row.step {w w' : World} {A : Option Addr} {n : Nat} {bs : List UInt8} (h : Row w A n bs) (hb : Below w.heap.size w w') : Row w' A n bs :=
  h.keep hb.size fun _ b _ _ hlt => hb.block b hlt
theorem Row.drewN {w : World} {A : Option Addr} {n : Nat} {bs : List UInt8} (h : Row w A n bs) (m : Nat) : Row (w.drewN m) A n bs :=
  h.keep (Nat.le_refl _) fun _ _ _ _ _ => rfl
theorem open_pages {H : Type} {enc : TypeId × Value → H} {W : World} {base : Nat} {v : Value} {d : DataW H} {p : List MemPlace} (hv : Value.okWide Try.prog W .any base 22 v)
    (h : DataW.Trod enc Try.prog W 0 (fun _ => true) true 22 v d p) : ∃ A n c bs, v = .slice A n c ∧ Row W A n bs ∧ (A = none → c = 0) := by
  obtain ⟨A, n, c, rfl⟩ := okWide_slice Try.underlying22 hv
  obtain ⟨fuel, hf⟩ := h
  rcases Go.Deep.open_slice Try.underlying22 hf with ⟨hcs, _⟩ | ⟨a, len, cap, m, k, D, Pl, hcs, _, hl, hm, hmm, _, hi⟩
  · simp [Value.cells] at hcs
    obtain ⟨rfl, rfl, rfl⟩ := hcs
    exact ⟨_, _, _, [], rfl, ⟨rfl, by unfold maxLen; omega, fun _ => rfl, fun hn => by omega⟩, fun _ => rfl⟩
  · simp [Value.cells] at hcs
    obtain ⟨rfl, rfl, rfl⟩ := hcs
    simp only [if_true] at hmm
    have each : ∀ i, i < 64 * n → ∃ q : UInt8, W.cell? ((a.add (i / 64 * 64)).add (i % 64)) = some (.int .u8 (q.toNat : Int)) := by
      intro i hin
      obtain ⟨cs, hc, ht⟩ := hi (i / 64) (by omega)
      rw [cellsP] at hc
      obtain ⟨_, hcl, hat⟩ := World.cells?_some hc
      obtain ⟨xs, mm, _, _, _, hxl, hx⟩ := DataW.trod_array Try.underlying43 ht
      have hj : i % 64 < 64 := Nat.mod_lt _ (by omega)
      have hx' := hx (i % 64) hj
      rw [cells8, Nat.mul_one] at hx'
      have hs : xs[i % 64]? = some (xs[i % 64]'(by omega)) := List.getElem?_eq_getElem (by omega)
      obtain ⟨v, hv, _, hw⟩ := DataW.trod_int Try.underlying5 (hx'.trans hs)
      have hb := bounds_u8 hw
      have hjl : i % 64 < cs.length := by omega
      have e : (cs.drop (i % 64)).take 1 = [cs[i % 64]] := by rw [List.drop_eq_getElem_cons hjl]; rfl
      rw [e] at hv
      injection hv with hv
      refine ⟨UInt8.ofNat v.toNat, ?_⟩
      rw [hat (i % 64) hj, List.getElem?_eq_getElem hjl, hv, UInt8.toNat_ofNat']
      congr 2
      omega
    obtain ⟨bs, hbl, hbs⟩ := list_of _ (64 * n) each
    have hget : ∀ i, i < 64 * n → W.cell? ((a.add (i / 64 * 64)).add (i % 64)) = some (.int .u8 ((bs.getD i 0).toNat : Int)) := fun i hin => by
      obtain ⟨q, hq, h1⟩ := hbs i hin
      rw [List.getD_eq_getElem?_getD, hq]; exact h1
    refine ⟨_, _, _, bs, rfl, ⟨hbl, by omega, fun q => (by cases q), fun hn => ?_⟩, fun q => (by cases q)⟩
    obtain ⟨b, off, spot⟩ := a
    have hcell0 := hget 0 (by omega)
    have hspot : spot = none := by simpa [Addr.add] using World.cell?_spot hcell0
    subst hspot
    refine ⟨b, off, rfl, ?_, fun j hj => ?_⟩
    · rw [Addr.add_mid, Addr.add_mid] at hcell0
      exact World.block_lt_of_cell? W _ hcell0
    · have := hget j hj
      rw [Addr.add_mid, Addr.add_mid, Nat.add_assoc, show j / 64 * 64 + j % 64 = j by omega] at this
      exact this

/-! ### pages of one's own -/
def OwnB (W : World) (base : Nat) (v : Value) (n : Nat) (bs : List UInt8) : Prop := W.ownsRow base 43 64 v n (byteVals bs)
theorem page_type : ∃ i z, Try.prog.info? 43 = some i ∧ i.zero = some z ∧ i.size = 64 ∧ i.bytes = 64 ∧ z.cells.size = 64 := by
  have e : (Try.prog.info? 43).map (fun i => (i.zero.map (·.cells.size), i.size, i.bytes)) = some (some 64, 64, 64) := by kernel_rfl
  cases h : Try.prog.info? 43 with
  | none => rw [h] at e; cases e
  | some i =>
    rw [h] at e
    simp only [Option.map_some, Option.some.injEq, Prod.mk.injEq] at e
    obtain ⟨e1, e2, e3⟩ := e
    cases hz : i.zero with
    | none => rw [hz] at e1; cases e1
    | some z => rw [hz] at e1; exact ⟨i, z, rfl, hz, e2, e3, by simpa using e1⟩
theorem OwnB.len {W : World} {base : Nat} {v : Value} {n : Nat} {bs : List UInt8} (h : OwnB W base v n bs) : bs.length = 64 * n := by
  have := h.1
  rw [byteVals_length] at this
  omega
theorem OwnB.form {W : World} {base : Nat} {v : Value} {n : Nat} {bs : List UInt8} (h : OwnB W base v n bs) :
    ∃ A cap, v = .slice A n cap ∧ Row W A n bs ∧ (∀ b off, A = some ⟨b, off, none⟩ → base ≤ b ∧ off = 0) ∧ n ≤ cap := by
  have hl := h.len
  obtain ⟨hl', h'⟩ := id h
  rcases h' with ⟨rfl, h0⟩ | ⟨g, cap, cur, rfl, hb, hg, hc, hcm, hcs, ht⟩
  · exact ⟨none, 0, by rw [h0], ⟨hl, by unfold maxLen; omega, fun _ => h0, fun hn => by omega⟩, fun b off q => (by cases q), by omega⟩
  · have hlt : g < W.heap.size := by
      rcases Nat.lt_or_ge g W.heap.size with hlt | hge
      · exact hlt
      · rw [Array.getElem?_eq_none hge] at hg; cases hg
    refine ⟨some ⟨g, 0, none⟩, cap, rfl, ⟨hl, Nat.le_trans hc hcm, fun q => (by cases q), fun hn => ⟨g, 0, rfl, hlt, fun j hj => ?_⟩⟩, fun b off q => ?_, hc⟩
    · have hj' : j < bs.length := by omega
      have := World.ownsRow.cellAt h j (by omega)
      rw [Nat.zero_add, this, byteVals_at bs j hj', List.getD_eq_getElem?_getD, List.getElem?_eq_getElem hj']; rfl
    · injection q with q; injection q with q1 q2; exact ⟨by omega, q2.symm⟩
theorem OwnB.nul {W : World} {base : Nat} {A : Option Addr} {c n : Nat} {bs : List UInt8} (h : OwnB W base (.slice A n c) n bs) : A = none → c = 0 := fun q => by
  rcases h.2 with ⟨e, _⟩ | ⟨g, cap, cur, e, _⟩
  · injection e
  · injection e with e1; rw [q] at e1; cases e1
theorem grown_below {W W' : World} (hb : Below W.heap.size W W') : W.grownBy W' none := ⟨hb.os, hb.tape, hb.output, hb.size, fun k hk _ => hb.block k hk⟩
theorem OwnB.step {W W' : World} {base : Nat} {v : Value} {n : Nat} {bs : List UInt8} (h : OwnB W base v n bs) (hb : Below W.heap.size W W') : OwnB W' base v n bs := by
  refine World.ownsRow.kept h (grown_below hb) ?_
  cases hv : v.ownBlock with
  | none => exact Or.inl rfl
  | some g => exact Or.inr (fun e => by cases e)
theorem OwnB.mono {W : World} {base base' : Nat} {v : Value} {n : Nat} {bs : List UInt8} (h : OwnB W base v n bs) (hb : base' ≤ base) : OwnB W base' v n bs := by
  obtain ⟨h1, h2⟩ := h
  refine ⟨h1, ?_⟩
  rcases h2 with h2 | ⟨g, cap, cur, e, hg, r⟩
  · exact Or.inl h2
  · exact Or.inr ⟨g, cap, cur, e, Nat.le_trans hb hg, r⟩
theorem below_drewN (N : Nat) (w : World) (m : Nat) : Below N w (w.drewN m) := ⟨rfl, rfl, rfl, Nat.le_refl _, fun _ _ => rfl⟩
end Go.Proofs.Ytjjejdjhlnlhiaa
