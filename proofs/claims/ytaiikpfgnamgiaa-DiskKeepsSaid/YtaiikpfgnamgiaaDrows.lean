/-
  Arguments that are slices of bytes, of pages, of a statement's calls, opened.
-/
import Derived.Test.YtaiikpfgnamgiaaDopen
import Derived.Deep.Slices
namespace Go.Proofs.Ytaiikpfgnamgiaa
open Go.ChangeShapes Go.WideShapes Go.ChangeAt Go.RowKit
open Dk (zeros zeros_length)

/-- a row of pages in memory -/
structure PageRow (w : World) (A : Option Addr) (n : Nat) (ps : List (List UInt8)) : Prop where
  len : ps.length = n
  small : n ≤ maxLen
  size : ∀ i, i < n → (ps.getD i []).length = 64
  cells : 0 < n → ∃ b off, A = some ⟨b, off, none⟩ ∧ b < w.heap.size ∧ ∀ i, i < n → w.rangeAt b (off + i * 64) (byteVals (ps.getD i []))
theorem PageRow.below {N : Nat} {w w' : World} {A : Option Addr} {n : Nat} {ps : List (List UInt8)} (h : PageRow w A n ps) (hb : Below N w w') (hN : ∀ b off, A = some ⟨b, off, none⟩ → b < N) : PageRow w' A n ps where
  len := h.len
  small := h.small
  size := h.size
  cells := fun hn => by
    obtain ⟨b, off, rfl, hlt, hc⟩ := h.cells hn
    have hbn := hN b off rfl
    exact ⟨b, off, rfl, Nat.lt_of_lt_of_le hlt hb.size, fun i hi j v hv => (hb.cell (p := ⟨b, off + i * 64 + j, none⟩) hbn).trans (hc i hi j v hv)⟩

theorem list_of {α : Type} (P : Nat → α → Prop) : ∀ (n : Nat), (∀ i, i < n → ∃ a, P i a) → ∃ l : List α, l.length = n ∧ ∀ i, i < n → ∃ a, l[i]? = some a ∧ P i a
  | 0, _ => ⟨[], rfl, fun i hi => by omega⟩
  | n + 1, h => by
    obtain ⟨l, hl, hp⟩ := list_of P n (fun i hi => h i (by omega))
    obtain ⟨a, ha⟩ := h n (by omega)
    refine ⟨l ++ [a], by simp [hl], fun i hi => ?_⟩
    rcases Nat.lt_or_ge i n with hlt | hge
    · obtain ⟨x, hx, hpx⟩ := hp i hlt
      exact ⟨x, by rw [List.getElem?_append_left (by omega)]; exact hx, hpx⟩
    · obtain rfl : i = n := by omega
      exact ⟨a, by rw [List.getElem?_append_right (by omega), hl, Nat.sub_self]; rfl, ha⟩
theorem open_pages {H : Type} {enc : TypeId × Value → H} {W : World} {base : Nat} {v : Value} {d : DataW H} {p : List MemPlace} (hv : Value.okWide Try.prog W .any base 46 v)
    (h : DataW.Trod enc Try.prog W 0 (fun _ => true) true 46 v d p) : ∃ A n c ps, v = .slice A n c ∧ PageRow W A n ps := by
  obtain ⟨A, n, c, rfl⟩ := okWide_slice Try.underlying46 hv
  obtain ⟨fuel, hf⟩ := h
  rcases Go.Deep.open_slice Try.underlying46 hf with ⟨hcs, _⟩ | ⟨a, len, cap, m, k, D, Pl, hcs, _, hl, hm, hmm, _, hi⟩
  · simp [Value.cells] at hcs
    obtain ⟨rfl, rfl, rfl⟩ := hcs
    exact ⟨_, _, _, [], rfl, rfl, by unfold maxLen; omega, fun i hi => by omega, fun hn => by omega⟩
  · simp [Value.cells] at hcs
    obtain ⟨rfl, rfl, rfl⟩ := hcs
    simp only [if_true] at hmm
    have each : ∀ i, i < n → ∃ q : List UInt8, q.length = 64 ∧ ∀ j u, (byteVals q)[j]? = some u → W.cell? ((a.add (i * 64)).add j) = some u := by
      intro i hin
      obtain ⟨cs, hc, ht⟩ := hi i (by omega)
      rw [cellsP] at hc
      obtain ⟨_, hcl, hat⟩ := World.cells?_some hc
      obtain ⟨l, hll, hl'⟩ := page_cells ht
      refine ⟨l, hll, fun j u hu => ?_⟩
      rw [← hl'] at hu
      have hj : j < 64 := by have := (List.getElem?_eq_some_iff.1 hu).1; omega
      rw [hat j hj, hu]
    obtain ⟨ps, hpl, hps⟩ := list_of _ n each
    have hget : ∀ i, i < n → (ps.getD i []).length = 64 ∧ ∀ j u, (byteVals (ps.getD i []))[j]? = some u → W.cell? ((a.add (i * 64)).add j) = some u := by
      intro i hin
      obtain ⟨q, hq, h1⟩ := hps i hin
      rw [List.getD_eq_getElem?_getD, hq]; exact h1
    refine ⟨_, _, _, ps, rfl, hpl, by omega, fun i hin => (hget i hin).1, fun hn => ?_⟩
    obtain ⟨b, off, spot⟩ := a
    obtain ⟨hz0, hc0⟩ := hget 0 hn
    have hcell0 := hc0 0 _ (byteVals_at _ 0 (by omega))
    have hspot : spot = none := by simpa [Addr.add] using World.cell?_spot hcell0
    subst hspot
    refine ⟨b, off, rfl, ?_, fun i hin j u hu => ?_⟩
    · rw [Addr.add_mid, Addr.add_mid] at hcell0
      exact World.block_lt_of_cell? W _ hcell0
    · have := (hget i hin).2 j u hu
      rw [Addr.add_mid, Addr.add_mid] at this
      exact this


/-! ### bytes -/
structure ByteRow (w : World) (A : Option Addr) (n c : Nat) (bs : List UInt8) : Prop where
  len : bs.length = n
  room : n ≤ c
  small : n ≤ maxLen
  cells : 0 < n → ∃ b off, A = some ⟨b, off, none⟩ ∧ b < w.heap.size ∧ ∀ j, j < n → w.cell? ⟨b, off + j, none⟩ = some (.int .u8 ((bs.getD j 0).toNat : Int))
theorem ByteRow.below {w w' : World} {A : Option Addr} {n c : Nat} {bs : List UInt8} (h : ByteRow w A n c bs) (hb : Below w.heap.size w w') : ByteRow w' A n c bs where
  len := h.len
  room := h.room
  small := h.small
  cells := fun h0 => by
    obtain ⟨b, off, rfl, hlt, hc⟩ := h.cells h0
    exact ⟨b, off, rfl, Nat.lt_of_lt_of_le hlt hb.size, fun j hj => (hb.cell (p := ⟨b, off + j, none⟩) hlt).trans (hc j hj)⟩
/-- for a crash: behind what the call has made -/
theorem ByteRow.keep {w W : World} {A : Option Addr} {n c : Nat} {bs : List UInt8} {L : List Nat} (h : ByteRow w A n c bs) (hn : n ≤ 1000) (hb : Below w.heap.size w W) (hL : ∀ k ∈ L, w.heap.size ≤ k) : KeepAt W A c bs L where
  small := by rw [h.len]; exact hn
  room := by rw [h.len]; exact h.room
  cells := fun h0 => by
    obtain ⟨b, off, e, hlt, hc⟩ := h.cells (by rw [h.len] at h0; exact h0)
    exact ⟨b, off, e, Nat.lt_of_lt_of_le hlt hb.size, fun q => by have := hL _ q; omega, fun j hj => (hb.cell (p := ⟨b, off + j, none⟩) hlt).trans (hc j (by rw [h.len] at hj; exact hj))⟩
theorem cellsB : Try.prog.cellsOf 32 = 1 := by kernel_rfl
theorem bytes_cells {H : Type} {enc : TypeId × Value → H} {W : World} {fuel : Nat} {cs : List Value} {x : DataW H × List MemPlace} (ht : DataW.trod enc Try.prog W 0 (fun _ => true) true fuel 32 cs = some x) :
    ∃ A n c bs, cs = [.slice A n c] ∧ ByteRow W A n c bs := by
  rcases Go.Deep.open_slice Try.underlying32 ht with ⟨hcs, _⟩ | ⟨a, len, cap, m, k, D, Pl, hcs, _, hl, hm, hmm, _, hi⟩
  · exact ⟨none, 0, 0, [], hcs, rfl, Nat.le_refl _, by unfold maxLen; omega, fun h => by omega⟩
  · simp only [if_true] at hmm
    have each : ∀ i, i < len → ∃ q : UInt8, W.cell? (a.add i) = some (.int .u8 (q.toNat : Int)) := by
      intro i hin
      obtain ⟨cs', hc, ht'⟩ := hi i (by omega)
      rw [cells8, Nat.mul_one] at hc
      obtain ⟨v, hv, _, hw⟩ := DataW.trod_int Try.underlying5 ht'
      have hb := bounds_u8 hw
      obtain ⟨_, _, hat⟩ := World.cells?_some hc
      have h0 := hat 0 (by omega)
      rw [hv] at h0
      refine ⟨UInt8.ofNat v.toNat, ?_⟩
      have e0 : (a.add i).add 0 = a.add i := by unfold Addr.add; cases a.spot <;> simp
      rw [e0] at h0
      rw [h0, UInt8.toNat_ofNat']
      show some (Value.int .u8 v) = _
      congr 2
      omega
    obtain ⟨bs, hbl, hbs⟩ := list_of _ len each
    refine ⟨some a, len, cap, bs, hcs, hbl, hl, by omega, fun h0 => ?_⟩
    have hget : ∀ i, i < len → W.cell? (a.add i) = some (.int .u8 ((bs.getD i 0).toNat : Int)) := fun i hin => by
      obtain ⟨q, hq, h1⟩ := hbs i hin
      rw [List.getD_eq_getElem?_getD, hq]; exact h1
    obtain ⟨b, off, spot⟩ := a
    have hcell0 := hget 0 h0
    have hspot : spot = none := by simpa [Addr.add] using World.cell?_spot hcell0
    subst hspot
    refine ⟨b, off, rfl, ?_, fun j hj => ?_⟩
    · rw [Addr.add_mid] at hcell0
      exact World.block_lt_of_cell? W _ hcell0
    · have := hget j hj
      rwa [Addr.add_mid] at this
theorem open_bytes {H : Type} {enc : TypeId × Value → H} {W : World} {base : Nat} {v : Value} {d : DataW H} {p : List MemPlace} (hv : Value.okWide Try.prog W .any base 32 v)
    (h : DataW.Trod enc Try.prog W 0 (fun _ => true) true 32 v d p) : ∃ A n c bs, v = .slice A n c ∧ ByteRow W A n c bs := by
  obtain ⟨A, n, c, rfl⟩ := okWide_slice Try.underlying32 hv
  obtain ⟨fuel, hf⟩ := h
  obtain ⟨A', n', c', bs, e, hb⟩ := bytes_cells hf
  simp [Value.cells] at e
  obtain ⟨rfl, rfl, rfl⟩ := e
  exact ⟨_, _, _, bs, rfl, hb⟩

/-! ### a statement's calls -/
structure OpV where
  K : Int
  N : Int
  page : List UInt8
  A : Option Addr
  n : Nat
  c : Nat
  keep : List UInt8
def opVals (o : OpV) : List Value := .int .i64 o.K :: .int .i64 o.N :: (byteVals o.page ++ [.slice o.A o.n o.c])
structure OpOk (W : World) (o : OpV) : Prop where
  page : o.page.length = 64
  lo : -9223372036854775808 ≤ o.N
  hi : o.N ≤ 9223372036854775807
  keep : ByteRow W o.A o.n o.c o.keep
theorem opVals_length {W : World} {o : OpV} (h : OpOk W o) : (opVals o).length = 67 := by unfold opVals; simp [byteVals_length, h.page]
structure OpRow (w : World) (A : Option Addr) (n : Nat) (os : List OpV) : Prop where
  len : os.length = n
  small : n ≤ maxLen
  ok : ∀ o ∈ os, OpOk w o
  cells : 0 < n → ∃ b off, A = some ⟨b, off, none⟩ ∧ b < w.heap.size ∧ ∀ i o, os[i]? = some o → w.rangeAt b (off + i * 67) (opVals o)
theorem cellsO : Try.prog.cellsOf 34 = 67 := by kernel_rfl
theorem cellsI : Try.prog.cellsOf 3 = 1 := by kernel_rfl
theorem op_cells {H : Type} {enc : TypeId × Value → H} {W : World} {fuel : Nat} {cs : List Value} {x : DataW H × List MemPlace} (ht : DataW.trod enc Try.prog W 0 (fun _ => true) true fuel 34 cs = some x) :
    ∃ o : OpV, OpOk W o ∧ cs = opVals o := by
  obtain ⟨y0, y1, y2, y3, n, _, hcl, h0, h1, h2, h3⟩ := Joins.trod_struct4 Try.underlying34 ht
  rw [cellsO] at hcl
  obtain ⟨K, e0, _, _⟩ := DataW.trod_int Try.underlying3 h0
  obtain ⟨N, e1, _, w1⟩ := DataW.trod_int Try.underlying3 h1
  obtain ⟨p, hp, e2⟩ := page_cells h2
  obtain ⟨A, m, c, bs, e3, hb⟩ := bytes_cells h3
  have hb1 := bounds_i64 w1
  refine ⟨⟨K, N, p, A, m, c, bs⟩, ⟨hp, hb1.1, hb1.2, hb⟩, ?_⟩
  have c0 : (cs.drop 0).take (Try.prog.cellsOf 3) = [.int .i64 K] := e0
  have c1 : (cs.drop 1).take (Try.prog.cellsOf 3) = [.int .i64 N] := e1
  have c2 : (cs.drop 2).take (Try.prog.cellsOf 31) = byteVals p := e2
  have c3 : (cs.drop 66).take (Try.prog.cellsOf 32) = [.slice A m c] := e3
  rw [cellsI] at c0 c1
  rw [cellsP] at c2
  rw [cellsB] at c3
  have hd : cs = (cs.drop 0).take 1 ++ ((cs.drop 1).take 1 ++ ((cs.drop 2).take 64 ++ (cs.drop 66).take 1)) := by
    have h66 : (cs.drop 66).take 1 = cs.drop 66 := List.take_of_length_le (by rw [List.length_drop]; omega)
    have h2 : (cs.drop 2).take 64 ++ cs.drop 66 = cs.drop 2 := by
      have := List.take_append_drop 64 (cs.drop 2)
      rwa [List.drop_drop] at this
    have h1 : (cs.drop 1).take 1 ++ cs.drop 2 = cs.drop 1 := by
      have := List.take_append_drop 1 (cs.drop 1)
      rwa [List.drop_drop] at this
    rw [h66, h2, h1, List.drop_zero, List.take_append_drop]
  rw [hd, c0, c1, c2, c3]
  rfl
theorem open_ops {H : Type} {enc : TypeId × Value → H} {W : World} {base : Nat} {v : Value} {d : DataW H} {p : List MemPlace} (hv : Value.okWide Try.prog W .any base 22 v)
    (h : DataW.Trod enc Try.prog W 0 (fun _ => true) true 22 v d p) : ∃ A n c os, v = .slice A n c ∧ OpRow W A n os := by
  obtain ⟨A, n, c, rfl⟩ := okWide_slice Try.underlying22 hv
  obtain ⟨fuel, hf⟩ := h
  rcases Go.Deep.open_slice Try.underlying22 hf with ⟨hcs, _⟩ | ⟨a, len, cap, m, k, D, Pl, hcs, _, hl, hm, hmm, _, hi⟩
  · simp [Value.cells] at hcs
    obtain ⟨rfl, rfl, rfl⟩ := hcs
    exact ⟨_, _, _, [], rfl, rfl, by unfold maxLen; omega, fun o ho => absurd ho (by simp), fun hn => by omega⟩
  · simp [Value.cells] at hcs
    obtain ⟨rfl, rfl, rfl⟩ := hcs
    simp only [if_true] at hmm
    have each : ∀ i, i < n → ∃ o : OpV, OpOk W o ∧ ∀ j u, (opVals o)[j]? = some u → W.cell? ((a.add (i * 67)).add j) = some u := by
      intro i hin
      obtain ⟨cs, hc, ht⟩ := hi i (by omega)
      rw [cellsO] at hc
      obtain ⟨_, hcl, hat⟩ := World.cells?_some hc
      obtain ⟨o, ho, he⟩ := op_cells ht
      refine ⟨o, ho, fun j u hu => ?_⟩
      rw [← he] at hu
      have hj : j < 67 := by have := (List.getElem?_eq_some_iff.1 hu).1; omega
      rw [hat j hj, hu]
    obtain ⟨os, hol, hos⟩ := list_of _ n each
    have hget : ∀ i o, os[i]? = some o → OpOk W o ∧ ∀ j u, (opVals o)[j]? = some u → W.cell? ((a.add (i * 67)).add j) = some u := by
      intro i o ho
      have hin : i < n := by have := (List.getElem?_eq_some_iff.1 ho).1; omega
      obtain ⟨q, hq, h1⟩ := hos i hin
      rw [ho] at hq
      injection hq with hq
      rw [hq]; exact h1
    refine ⟨_, _, _, os, rfl, hol, by omega, fun o ho => ?_, fun hn => ?_⟩
    · obtain ⟨i, hi', he⟩ := List.getElem_of_mem ho
      exact (hget i o (by rw [List.getElem?_eq_getElem hi', he])).1
    · obtain ⟨o0, ho0⟩ : ∃ o, os[0]? = some o := ⟨_, List.getElem?_eq_getElem (by omega)⟩
      obtain ⟨b, off, spot⟩ := a
      have hcell0 := (hget 0 o0 ho0).2 0 _ (show (opVals o0)[0]? = some (.int .i64 o0.K) from rfl)
      have hspot : spot = none := by simpa [Addr.add] using World.cell?_spot hcell0
      subst hspot
      refine ⟨b, off, rfl, ?_, fun i o ho j u hu => ?_⟩
      · rw [Addr.add_mid, Addr.add_mid] at hcell0
        exact World.block_lt_of_cell? W _ hcell0
      · have := (hget i o ho).2 j u hu
        rw [Addr.add_mid, Addr.add_mid] at this
        exact this
end Go.Proofs.Ytaiikpfgnamgiaa
