/-
  Rows of pages and of bytes in memory; a slice of bytes, opened.
-/
import Derived.Test.YtlamllnflbdcjaaDopen
import Derived.Deep.Slices
namespace Go.Proofs.Ytlamllnflbdcjaa
open Go.ChangeShapes Go.WideShapes Go.ChangeAt Go.RowKit
open Dk (zeros zeros_length)

theorem list_of {α : Type} (P : Nat → α → Prop) : ∀ (n : Nat), (∀ i, i < n → ∃ a, P i a) → ∃ l : List α, l.length = n ∧ ∀ i, i < n → ∃ a, l[i]? = some a ∧ P i a
  | 0, _ => ⟨[], rfl, fun i hi => by omega⟩
  | n + 1, h => by
    obtain ⟨l, hl, hp⟩ := list_of P n (fun i hi => h i (by omega))
    obtain ⟨a, ha⟩ := h n (by omega)
    refine ⟨l ++ [a], by simp [hl], fun i hi => ?_⟩
    rcases Nat.lt_or_ge i n with hlt | hge
    · obtain ⟨x, hx, hpx⟩ := hp i hlt
      exact ⟨x, by rw [List.getElem?_append_left (by omega)]; exact hx, hpx⟩
    · obtain rfl : i = n := by omega
      exact ⟨a, by rw [List.getElem?_append_right (by omega), hl, Nat.sub_self]; rfl, ha⟩
/-- a row of pages in memory -/
structure PageRow (w : World) (A : Option Addr) (n : Nat) (ps : List (List UInt8)) : Prop where
  len : ps.length = n
  small : n ≤ maxLen
  size : ∀ p ∈ ps, p.length = 64
  cells : 0 < n → ∃ b off, A = some ⟨b, off, none⟩ ∧ b < w.heap.size ∧ ∀ i p, ps[i]? = some p → w.rangeAt b (off + i * 64) (byteVals p)
theorem PageRow.below {N : Nat} {w w' : World} {A : Option Addr} {n : Nat} {ps : List (List UInt8)} (h : PageRow w A n ps) (hb : Below N w w') (hN : ∀ b off, A = some ⟨b, off, none⟩ → b < N) : PageRow w' A n ps where
  len := h.len
  small := h.small
  size := h.size
  cells := fun hn => by
    obtain ⟨b, off, rfl, hlt, hc⟩ := h.cells hn
    have hbn := hN b off rfl
    exact ⟨b, off, rfl, Nat.lt_of_lt_of_le hlt hb.size, fun i p hi j v hv => (hb.cell (p := ⟨b, off + i * 64 + j, none⟩) hbn).trans (hc i p hi j v hv)⟩
theorem PageRow.step {w w' : World} {A : Option Addr} {n : Nat} {ps : List (List UInt8)} (h : PageRow w A n ps) (hb : Below w.heap.size w w') : PageRow w' A n ps where
  len := h.len
  small := h.small
  size := h.size
  cells := fun hn => by
    obtain ⟨b, off, rfl, hlt, hc⟩ := h.cells hn
    exact ⟨b, off, rfl, Nat.lt_of_lt_of_le hlt hb.size, fun i p hi j v hv => (hb.cell (p := ⟨b, off + i * 64 + j, none⟩) hlt).trans (hc i p hi j v hv)⟩
/-! ### bytes -/
structure ByteRow (w : World) (A : Option Addr) (n c : Nat) (bs : List UInt8) : Prop where
  len : bs.length = n
  room : n ≤ c
  small : n ≤ maxLen
  cells : 0 < n → ∃ b off, A = some ⟨b, off, none⟩ ∧ b < w.heap.size ∧ ∀ j, j < n → w.cell? ⟨b, off + j, none⟩ = some (.int .u8 ((bs.getD j 0).toNat : Int))
theorem ByteRow.below {w w' : World} {A : Option Addr} {n c : Nat} {bs : List UInt8} (h : ByteRow w A n c bs) (hb : Below w.heap.size w w') : ByteRow w' A n c bs where
  len := h.len
  room := h.room
  small := h.small
  cells := fun h0 => by
    obtain ⟨b, off, rfl, hlt, hc⟩ := h.cells h0
    exact ⟨b, off, rfl, Nat.lt_of_lt_of_le hlt hb.size, fun j hj => (hb.cell (p := ⟨b, off + j, none⟩) hlt).trans (hc j hj)⟩
/-- for a crash: behind what the call has made -/
theorem ByteRow.keep {w W : World} {A : Option Addr} {n c : Nat} {bs : List UInt8} {L : List Nat} (h : ByteRow w A n c bs) (hn : n ≤ 1000) (hb : Below w.heap.size w W) (hL : ∀ k ∈ L, w.heap.size ≤ k) : KeepAt W A c bs L where
  small := by rw [h.len]; exact hn
  room := by rw [h.len]; exact h.room
  cells := fun h0 => by
    obtain ⟨b, off, e, hlt, hc⟩ := h.cells (by rw [h.len] at h0; exact h0)
    exact ⟨b, off, e, Nat.lt_of_lt_of_le hlt hb.size, fun q => by have := hL _ q; omega, fun j hj => (hb.cell (p := ⟨b, off + j, none⟩) hlt).trans (hc j (by rw [h.len] at hj; exact hj))⟩
theorem cellsB : Try.prog.cellsOf 29 = 1 := by kernel_rfl
theorem bytes_cells {H : Type} {enc : TypeId × Value → H} {W : World} {fuel : Nat} {cs : List Value} {x : DataW H × List MemPlace} (ht : DataW.trod enc Try.prog W 0 (fun _ => true) true fuel 29 cs = some x) :
    ∃ A n c bs, cs = [.slice A n c] ∧ ByteRow W A n c bs := by
  rcases Go.Deep.open_slice Try.underlying29 ht with ⟨hcs, _⟩ | ⟨a, len, cap, m, k, D, Pl, hcs, _, hl, hm, hmm, _, hi⟩
  · exact ⟨none, 0, 0, [], hcs, rfl, Nat.le_refl _, by unfold maxLen; omega, fun h => by omega⟩
  · simp only [if_true] at hmm
    have each : ∀ i, i < len → ∃ q : UInt8, W.cell? (a.add i) = some (.int .u8 (q.toNat : Int)) := by
      intro i hin
      obtain ⟨cs', hc, ht'⟩ := hi i (by omega)
      rw [cells8, Nat.mul_one] at hc
      obtain ⟨v, hv, _, hw⟩ := DataW.trod_int Try.underlying5 ht'
      have hb := bounds_u8 hw
      obtain ⟨_, _, hat⟩ := World.cells?_some hc
      have h0 := hat 0 (by omega)
      rw [hv] at h0
      refine ⟨UInt8.ofNat v.toNat, ?_⟩
      have e0 : (a.add i).add 0 = a.add i := by unfold Addr.add; cases a.spot <;> simp
      rw [e0] at h0
      rw [h0, UInt8.toNat_ofNat']
      show some (Value.int .u8 v) = _
      congr 2
      omega
    obtain ⟨bs, hbl, hbs⟩ := list_of _ len each
    refine ⟨some a, len, cap, bs, hcs, hbl, hl, by omega, fun h0 => ?_⟩
    have hget : ∀ i, i < len → W.cell? (a.add i) = some (.int .u8 ((bs.getD i 0).toNat : Int)) := fun i hin => by
      obtain ⟨q, hq, h1⟩ := hbs i hin
      rw [List.getD_eq_getElem?_getD, hq]; exact h1
    obtain ⟨b, off, spot⟩ := a
    have hcell0 := hget 0 h0
    have hspot : spot = none := by simpa [Addr.add] using World.cell?_spot hcell0
    subst hspot
    refine ⟨b, off, rfl, ?_, fun j hj => ?_⟩
    · rw [Addr.add_mid] at hcell0
      exact World.block_lt_of_cell? W _ hcell0
    · have := hget j hj
      rwa [Addr.add_mid] at this
theorem open_bytes {H : Type} {enc : TypeId × Value → H} {W : World} {base : Nat} {v : Value} {d : DataW H} {p : List MemPlace} (hv : Value.okWide Try.prog W .any base 29 v)
    (h : DataW.Trod enc Try.prog W 0 (fun _ => true) true 29 v d p) : ∃ A n c bs, v = .slice A n c ∧ ByteRow W A n c bs := by
  obtain ⟨A, n, c, rfl⟩ := okWide_slice Try.underlying29 hv
  obtain ⟨fuel, hf⟩ := h
  obtain ⟨A', n', c', bs, e, hb⟩ := bytes_cells hf
  simp [Value.cells] at e
  obtain ⟨rfl, rfl, rfl⟩ := e
  exact ⟨_, _, _, bs, rfl, hb⟩
end Go.Proofs.Ytlamllnflbdcjaa
