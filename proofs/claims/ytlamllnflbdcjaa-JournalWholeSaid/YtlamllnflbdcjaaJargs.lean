/-
  Arguments that are slices of changes, and an Off, opened.
-/
import Derived.Test.YtlamllnflbdcjaaJmain
import Derived.Deep.Strs
namespace Go.Proofs.Ytlamllnflbdcjaa
open Go.ChangeShapes Go.WideShapes Go.ChangeAt Go.RowKit
open Dk (zeros zeros_length)
open Jn (Chg)

theorem cellsI : Try.prog.cellsOf 3 = 1 := by kernel_rfl
theorem cellsC : Try.prog.cellsOf 46 = 65 := by kernel_rfl
theorem cellsIs : Try.prog.cellsOf 23 = 1 := by kernel_rfl
theorem cellsBs : Try.prog.cellsOf 24 = 1 := by kernel_rfl
theorem cellsOff : Try.prog.cellsOf 26 = 3 := by kernel_rfl
structure ChRow (w : World) (A : Option Addr) (n : Nat) (cs : List Chg) : Prop where
  len : cs.length = n
  small : n ≤ maxLen
  pages : ∀ c ∈ cs, c.page.length = 64
  at' : ChAt w A [] cs
theorem chg_cells {H : Type} {enc : TypeId × Value → H} {W : World} {fuel : Nat} {cs : List Value} {x : DataW H × List MemPlace} (ht : DataW.trod enc Try.prog W 0 (fun _ => true) true fuel 46 cs = some x) :
    ∃ c : Chg, c.page.length = 64 ∧ cs = chgVals c := by
  obtain ⟨y0, y1, n, _, hcl, h0, h1⟩ := trod_struct2 Try.underlying46 ht
  rw [cellsC] at hcl
  obtain ⟨K, e0, _, _⟩ := DataW.trod_int Try.underlying3 h0
  obtain ⟨p, hp, e1⟩ := page_cells h1
  have c0 : (cs.drop 0).take (Try.prog.cellsOf 3) = [.int .i64 K] := e0
  have c1 : (cs.drop 1).take (Try.prog.cellsOf 31) = byteVals p := e1
  rw [cellsI] at c0
  rw [cellsP] at c1
  refine ⟨⟨K, p⟩, hp, ?_⟩
  have hd : cs = (cs.drop 0).take 1 ++ (cs.drop 1).take 64 := by
    have h1 : (cs.drop 1).take 64 = cs.drop 1 := List.take_of_length_le (by rw [List.length_drop]; omega)
    rw [h1, List.drop_zero, List.take_append_drop]
  rw [hd, c0, c1]
  rfl
set_option maxRecDepth 100000 in
theorem open_chgs {H : Type} {enc : TypeId × Value → H} {W : World} {base : Nat} {v : Value} {d : DataW H} {p : List MemPlace} (hv : Value.okWide Try.prog W .any base 22 v)
    (h : DataW.Trod enc Try.prog W 0 (fun _ => true) true 22 v d p) : ∃ A n c cs, v = .slice A n c ∧ ChRow W A n cs := by
  obtain ⟨A, n, c, rfl⟩ := okWide_slice Try.underlying22 hv
  obtain ⟨fuel, hf⟩ := h
  rcases Go.Deep.open_slice Try.underlying22 hf with ⟨hcs, _⟩ | ⟨a, len, cap, m, k, D, Pl, hcs, _, hl, hm, hmm, _, hi⟩
  · simp [Value.cells] at hcs
    obtain ⟨rfl, rfl, rfl⟩ := hcs
    exact ⟨_, _, _, [], rfl, rfl, by unfold maxLen; omega, fun o ho => absurd ho (by simp), fun h0 => absurd h0 (by simp)⟩
  · simp [Value.cells] at hcs
    obtain ⟨rfl, rfl, rfl⟩ := hcs
    simp only [if_true] at hmm
    have each : ∀ i, i < n → ∃ c : Chg, c.page.length = 64 ∧ ∀ j u, (chgVals c)[j]? = some u → W.cell? ((a.add (i * 65)).add j) = some u := by
      intro i hin
      obtain ⟨cs, hc, ht⟩ := hi i (by omega)
      rw [cellsC] at hc
      obtain ⟨_, hcl, hat⟩ := World.cells?_some hc
      obtain ⟨o, ho, he⟩ := chg_cells ht
      refine ⟨o, ho, fun j u hu => ?_⟩
      rw [← he] at hu
      have hj : j < 65 := by have := (List.getElem?_eq_some_iff.1 hu).1; omega
      rw [hat j hj, hu]
    obtain ⟨os, hol, hos⟩ := list_of _ n each
    have hget : ∀ i o, os[i]? = some o → o.page.length = 64 ∧ ∀ j u, (chgVals o)[j]? = some u → W.cell? ((a.add (i * 65)).add j) = some u := by
      intro i o ho
      have hin : i < n := by have := (List.getElem?_eq_some_iff.1 ho).1; omega
      obtain ⟨q, hq, h1⟩ := hos i hin
      rw [ho] at hq
      injection hq with hq
      rw [hq]; exact h1
    refine ⟨_, _, _, os, rfl, hol, by omega, fun o ho => ?_, fun hn => ?_⟩
    · obtain ⟨i, hi', he⟩ := List.getElem_of_mem ho
      exact (hget i o (by rw [List.getElem?_eq_getElem hi', he])).1
    · obtain ⟨o0, ho0⟩ : ∃ o, os[0]? = some o := ⟨_, List.getElem?_eq_getElem hn⟩
      obtain ⟨b, off, spot⟩ := a
      have hcell0 := (hget 0 o0 ho0).2 0 _ (show (chgVals o0)[0]? = some (.int .i64 o0.no) from rfl)
      have hspot : spot = none := by simpa [Addr.add] using World.cell?_spot hcell0
      subst hspot
      refine ⟨b, off, rfl, ?_, by simp, fun i o ho j u hu => ?_⟩
      · rw [Addr.add_mid, Addr.add_mid] at hcell0
        exact World.block_lt_of_cell? W _ hcell0
      · have := (hget i o ho).2 j u hu
        rw [Addr.add_mid, Addr.add_mid] at this
        exact this

/-! ### integers, and slices of bytes -/
structure IntRow (w : World) (A : Option Addr) (n : Nat) (fs : List Int) : Prop where
  len : fs.length = n
  small : n ≤ maxLen
  ok : ∀ f ∈ fs, -9223372036854775808 ≤ f ∧ f ≤ 9223372036854775807
  cells : 0 < n → ∃ b off, A = some ⟨b, off, none⟩ ∧ b < w.heap.size ∧ ∀ i f, fs[i]? = some f → w.cell? ⟨b, off + i, none⟩ = some (.int .i64 f)
theorem ints_cells {H : Type} {enc : TypeId × Value → H} {W : World} {fuel : Nat} {cs : List Value} {x : DataW H × List MemPlace} (ht : DataW.trod enc Try.prog W 0 (fun _ => true) true fuel 23 cs = some x) :
    ∃ A n c fs, cs = [.slice A n c] ∧ IntRow W A n fs := by
  rcases Go.Deep.open_slice1 Try.underlying23 cellsI ht with ⟨hcs, _⟩ | ⟨a, len, cap, m, k, V, D, Pl, hcs, _, hl, hm, hmm, _, hi⟩
  · exact ⟨none, 0, 0, [], hcs, rfl, by unfold maxLen; omega, fun f hf => absurd hf (by simp), fun h => by omega⟩
  · simp only [if_true] at hmm
    have each : ∀ i, i < len → ∃ f : Int, (-9223372036854775808 ≤ f ∧ f ≤ 9223372036854775807) ∧ W.cell? (a.add i) = some (.int .i64 f) := by
      intro i hin
      obtain ⟨h1, h2⟩ := hi i (by omega)
      obtain ⟨v, hv, _, hw⟩ := DataW.trod_int Try.underlying3 h2
      have hv' : V i = .int .i64 v := by simpa using hv
      exact ⟨v, bounds_i64 hw, by rw [h1, hv']⟩
    obtain ⟨fs, hfl, hfs⟩ := list_of _ len each
    have hget : ∀ i f, fs[i]? = some f → (-9223372036854775808 ≤ f ∧ f ≤ 9223372036854775807) ∧ W.cell? (a.add i) = some (.int .i64 f) := fun i f hf => by
      have hin : i < len := by have := (List.getElem?_eq_some_iff.1 hf).1; omega
      obtain ⟨q, hq, h1⟩ := hfs i hin
      rw [hf] at hq
      injection hq with hq
      rw [hq]; exact h1
    refine ⟨some a, len, cap, fs, hcs, hfl, by omega, fun f hf => ?_, fun h0 => ?_⟩
    · obtain ⟨i, hi', he⟩ := List.getElem_of_mem hf
      exact (hget i f (by rw [List.getElem?_eq_getElem hi', he])).1
    · obtain ⟨f0, hf0⟩ : ∃ f, fs[0]? = some f := ⟨_, List.getElem?_eq_getElem (by omega)⟩
      obtain ⟨b, off, spot⟩ := a
      have hcell0 := (hget 0 f0 hf0).2
      have hspot : spot = none := by simpa [Addr.add] using World.cell?_spot hcell0
      subst hspot
      refine ⟨b, off, rfl, ?_, fun i f hf => ?_⟩
      · rw [Addr.add_mid] at hcell0
        exact World.block_lt_of_cell? W _ hcell0
      · have := (hget i f hf).2
        rwa [Addr.add_mid] at this
/-- a slice of bytes -/
structure Kp where
  A : Option Addr
  n : Nat
  c : Nat
  bs : List UInt8
structure KeepRow (w : World) (A : Option Addr) (n : Nat) (ks : List Kp) : Prop where
  len : ks.length = n
  small : n ≤ maxLen
  ok : ∀ k ∈ ks, ByteRow w k.A k.n k.c k.bs
  cells : 0 < n → ∃ b off, A = some ⟨b, off, none⟩ ∧ b < w.heap.size ∧ ∀ i k, ks[i]? = some k → w.cell? ⟨b, off + i, none⟩ = some (.slice k.A k.n k.c)
theorem keeps_cells {H : Type} {enc : TypeId × Value → H} {W : World} {fuel : Nat} {cs : List Value} {x : DataW H × List MemPlace} (ht : DataW.trod enc Try.prog W 0 (fun _ => true) true fuel 24 cs = some x) :
    ∃ A n c ks, cs = [.slice A n c] ∧ KeepRow W A n ks := by
  rcases Go.Deep.open_slice1 Try.underlying24 cellsB ht with ⟨hcs, _⟩ | ⟨a, len, cap, m, k, V, D, Pl, hcs, _, hl, hm, hmm, _, hi⟩
  · exact ⟨none, 0, 0, [], hcs, rfl, by unfold maxLen; omega, fun f hf => absurd hf (by simp), fun h => by omega⟩
  · simp only [if_true] at hmm
    have each : ∀ i, i < len → ∃ k : Kp, ByteRow W k.A k.n k.c k.bs ∧ W.cell? (a.add i) = some (.slice k.A k.n k.c) := by
      intro i hin
      obtain ⟨h1, h2⟩ := hi i (by omega)
      obtain ⟨A, n, c, bs, hv, hb⟩ := bytes_cells h2
      have hv' : V i = .slice A n c := by simpa using hv
      exact ⟨⟨A, n, c, bs⟩, hb, by rw [h1, hv']⟩
    obtain ⟨ks, hkl, hks⟩ := list_of _ len each
    have hget : ∀ i k, ks[i]? = some k → ByteRow W k.A k.n k.c k.bs ∧ W.cell? (a.add i) = some (.slice k.A k.n k.c) := fun i k hk => by
      have hin : i < len := by have := (List.getElem?_eq_some_iff.1 hk).1; omega
      obtain ⟨q, hq, h1⟩ := hks i hin
      rw [hk] at hq
      injection hq with hq
      rw [hq]; exact h1
    refine ⟨some a, len, cap, ks, hcs, hkl, by omega, fun f hf => ?_, fun h0 => ?_⟩
    · obtain ⟨i, hi', he⟩ := List.getElem_of_mem hf
      exact (hget i f (by rw [List.getElem?_eq_getElem hi', he])).1
    · obtain ⟨k0, hk0⟩ : ∃ k, ks[0]? = some k := ⟨_, List.getElem?_eq_getElem (by omega)⟩
      obtain ⟨b, off, spot⟩ := a
      have hcell0 := (hget 0 k0 hk0).2
      have hspot : spot = none := by simpa [Addr.add] using World.cell?_spot hcell0
      subst hspot
      refine ⟨b, off, rfl, ?_, fun i k hk => ?_⟩
      · rw [Addr.add_mid] at hcell0
        exact World.block_lt_of_cell? W _ hcell0
      · have := (hget i k hk).2
        rwa [Addr.add_mid] at this
theorem open_off {H : Type} {enc : TypeId × Value → H} {W : World} {base : Nat} {v : Value} {d : DataW H} {p : List MemPlace} (hv : Value.okWide Try.prog W .any base 26 v)
    (h : DataW.Trod enc Try.prog W 0 (fun _ => true) true 26 v d p) : ∃ f Af nf cf fs Ak nk ck ks, v = .agg #[.int .i64 f, .slice Af nf cf, .slice Ak nk ck] ∧ (-9223372036854775808 ≤ f ∧ f ≤ 9223372036854775807) ∧ IntRow W Af nf fs ∧ KeepRow W Ak nk ks := by
  obtain ⟨cs, rfl, hsz⟩ := okWide_struct Try.underlying26 hv
  obtain ⟨fuel, hf⟩ := h
  obtain ⟨y0, y1, y2, n, _, hcl, h0, h1, h2⟩ := Go.Deep.trod_struct3 Try.underlying26 hf
  obtain ⟨f, e0, _, w0⟩ := DataW.trod_int Try.underlying3 h0
  obtain ⟨Af, nf, cf, fs, e1, hfs⟩ := ints_cells h1
  obtain ⟨Ak, nk, ck, ks, e2, hks⟩ := keeps_cells h2
  refine ⟨f, Af, nf, cf, fs, Ak, nk, ck, ks, ?_, bounds_i64 w0, hfs, hks⟩
  rw [cellsOff] at hsz
  obtain ⟨v0, v1, v2, rfl⟩ := Joins.array3 hsz
  have c0 : (([v0, v1, v2] : List Value).drop 0).take (Try.prog.cellsOf 3) = [.int .i64 f] := e0
  have c1 : (([v0, v1, v2] : List Value).drop 1).take (Try.prog.cellsOf 23) = [.slice Af nf cf] := e1
  have c2 : (([v0, v1, v2] : List Value).drop 2).take (Try.prog.cellsOf 24) = [.slice Ak nk ck] := e2
  rw [cellsI] at c0
  rw [cellsIs] at c1
  rw [cellsBs] at c2
  simp at c0 c1 c2
  rw [c0, c1, c2]
end Go.Proofs.Ytlamllnflbdcjaa
