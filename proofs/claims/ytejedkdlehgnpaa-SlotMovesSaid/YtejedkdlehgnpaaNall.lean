/-
  The contract of slot.All: rows of pages in memory, entries appended one by one.
-/
import Derived.Test.YtejedkdlehgnpaaNopen
import Derived.Maps.AppendAt
import Derived.OwnWalk
import Derived.BigQuiet
namespace Go.Proofs.Ytejedkdlehgnpaa
open Go.ChangeShapes Go.WideShapes Go.ChangeAt Go.RowKit Go.Maps

/-! ### rows of like length, in a slice -/
structure ManyAt (w : World) (A : Option Addr) (z : Nat) (rs : List (List Value)) : Prop where
  cells : 0 < rs.length → ∃ b off, A = some ⟨b, off, none⟩ ∧ b < w.heap.size ∧ ∀ i r, rs[i]? = some r → w.rangeAt b (off + i * z) r
theorem ManyAt.step {w w' : World} {A : Option Addr} {z : Nat} {rs : List (List Value)} (h : ManyAt w A z rs) (hb : Below w.heap.size w w') : ManyAt w' A z rs :=
  ⟨fun h0 => by
    obtain ⟨b, off, e, hlt, hc⟩ := h.cells h0
    exact ⟨b, off, e, Nat.lt_of_lt_of_le hlt hb.size, fun i r hi j v hv => (hb.cell (p := ⟨b, off + i * z + j, none⟩) hlt).trans (hc i r hi j v hv)⟩⟩
theorem list_of {α : Type} (P : Nat → α → Prop) : ∀ (n : Nat), (∀ i, i < n → ∃ a, P i a) → ∃ l : List α, l.length = n ∧ ∀ i, i < n → ∃ a, l[i]? = some a ∧ P i a
  | 0, _ => ⟨[], rfl, fun i hi => absurd hi (Nat.not_lt_zero _)⟩
  | n + 1, h => by
    obtain ⟨l, hl, hp⟩ := list_of P n (fun i hi => h i (by omega))
    obtain ⟨a, ha⟩ := h n (by omega)
    refine ⟨l ++ [a], by simp [hl], fun i hi => ?_⟩
    rcases Nat.lt_or_ge i n with hlt | hge
    · obtain ⟨x, hx, hpx⟩ := hp i hlt
      exact ⟨x, by rw [List.getElem?_append_left (by omega)]; exact hx, hpx⟩
    · obtain rfl : i = n := by omega
      exact ⟨a, by rw [List.getElem?_append_right (by omega), hl, Nat.sub_self]; rfl, ha⟩
/-- pages that came in -/
structure PagesIn (w : World) (A : Option Addr) (n : Nat) (ps : List (List UInt8)) : Prop where
  len : ps.length = n
  small : n ≤ maxLen
  size : ∀ p ∈ ps, p.length = 64
  rows : ManyAt w A 64 (ps.map byteVals)
theorem open_many {H : Type} {enc : TypeId × Value → H} {W : World} {base : Nat} {v : Value} {d : DataW H} {p : List MemPlace} {st et : TypeId} {z : Nat} (hz : 0 < z) (hst : Try.prog.underlying st = some (.slice et)) (hcz : Try.prog.cellsOf et = z) (G : List Value → Prop)
    (hG : ∀ (m k : Nat) (cs : List Value) (x : DataW H × List MemPlace), DataW.trod enc Try.prog W k (fun _ => true) true m et cs = some x → G cs)
    (hGz : ∀ cs, G cs → cs.length = z) (hv : Value.okWide Try.prog W .any base st v) (h : DataW.Trod enc Try.prog W 0 (fun _ => true) true st v d p) : ∃ A n c rs, v = .slice A n c ∧ rs.length = n ∧ n ≤ maxLen ∧ (∀ r ∈ rs, G r) ∧ ManyAt W A z rs := by
  obtain ⟨A, n, c, rfl⟩ := okWide_slice hst hv
  obtain ⟨fuel, hf⟩ := h
  rcases Go.Deep.open_slice hst hf with ⟨hcs, _⟩ | ⟨a, len, cap, m, k, D, Pl, hcs, _, hl, hm, hmm, _, hi⟩
  · simp [Value.cells] at hcs
    obtain ⟨rfl, rfl, rfl⟩ := hcs
    exact ⟨_, _, _, [], rfl, rfl, by unfold maxLen; omega, fun r hr => absurd hr (by simp), ⟨fun hn => by simp at hn⟩⟩
  · simp [Value.cells] at hcs
    obtain ⟨rfl, rfl, rfl⟩ := hcs
    simp only [if_true] at hmm
    have each : ∀ i, i < n → ∃ q : List Value, G q ∧ ∀ j u, q[j]? = some u → W.cell? ((a.add (i * z)).add j) = some u := by
      intro i hin
      obtain ⟨cs, hc, ht⟩ := hi i (by omega)
      rw [hcz] at hc
      obtain ⟨_, hcl, hat⟩ := World.cells?_some hc
      have hg := hG _ _ _ _ ht
      refine ⟨cs, hg, fun j u hu => ?_⟩
      have hj : j < z := by have := (List.getElem?_eq_some_iff.1 hu).1; have := hGz _ hg; omega
      rw [hat j hj, hu]
    obtain ⟨rs, hrl, hrs⟩ := list_of _ n each
    have hget : ∀ i r, rs[i]? = some r → G r ∧ ∀ j u, r[j]? = some u → W.cell? ((a.add (i * z)).add j) = some u := by
      intro i r hr
      have hin : i < n := by have := (List.getElem?_eq_some_iff.1 hr).1; omega
      obtain ⟨q, hq, h1⟩ := hrs i hin
      rw [hr] at hq
      injection hq with hq
      rw [hq]; exact h1
    refine ⟨_, _, _, rs, rfl, hrl, by omega, fun r hr => ?_, ⟨fun hn => ?_⟩⟩
    · obtain ⟨i, hi', he⟩ := List.getElem_of_mem hr
      exact (hget i r (by rw [List.getElem?_eq_getElem hi', he])).1
    · obtain ⟨r0, hr0⟩ : ∃ r, rs[0]? = some r := ⟨_, List.getElem?_eq_getElem (by omega)⟩
      obtain ⟨b, off, spot⟩ := a
      obtain ⟨hz0, hc0⟩ := hget 0 r0 hr0
      have hl0 := hGz _ hz0
      have hcell0 := hc0 0 _ (List.getElem?_eq_getElem (by omega))
      have hspot : spot = none := by simpa [Addr.add] using World.cell?_spot hcell0
      subst hspot
      refine ⟨b, off, rfl, ?_, fun i r hr j u hu => ?_⟩
      · rw [Addr.add_mid, Addr.add_mid] at hcell0
        exact World.block_lt_of_cell? W _ hcell0
      · have := (hget i r hr).2 j u hu
        rw [Addr.add_mid, Addr.add_mid] at this
        exact this
theorem open_pages {H : Type} {enc : TypeId × Value → H} {W : World} {base : Nat} {v : Value} {d : DataW H} {p : List MemPlace} (hv : Value.okWide Try.prog W .any base 43 v)
    (h : DataW.Trod enc Try.prog W 0 (fun _ => true) true 43 v d p) : ∃ A n c ps, v = .slice A n c ∧ PagesIn W A n ps := by
  obtain ⟨A, n, c, rs, rfl, hl, hm, hg, hr⟩ := open_many (z := 64) (by decide) Try.underlying43 cellsP (fun cs => ∃ q : List UInt8, q.length = 64 ∧ cs = byteVals q) (fun m k cs x ht => page_cells ht) (fun cs ⟨q, hq, he⟩ => by rw [he, byteVals_length, hq]) hv h
  have : ∀ rs : List (List Value), (∀ r ∈ rs, ∃ q : List UInt8, q.length = 64 ∧ r = byteVals q) → ∃ ps : List (List UInt8), rs = ps.map byteVals ∧ ∀ p ∈ ps, p.length = 64 := by
    intro rs
    induction rs with
    | nil => intro _; exact ⟨[], rfl, by simp⟩
    | cons r t ih =>
      intro hr
      obtain ⟨q, hq, e⟩ := hr r (List.mem_cons_self ..)
      obtain ⟨ps, e2, h2⟩ := ih (fun x hx => hr x (List.mem_cons_of_mem _ hx))
      exact ⟨q :: ps, by rw [e, e2]; rfl, fun p hp => by
        rcases List.mem_cons.1 hp with rfl | hp
        · exact hq
        · exact h2 p hp⟩
  obtain ⟨ps, e, hp⟩ := this rs hg
  exact ⟨A, n, c, ps, rfl, by rw [← hl, e, List.length_map], hm, hp, e ▸ hr⟩
theorem open_ents {H : Type} {enc : TypeId × Value → H} {W : World} {base : Nat} {v : Value} {d : DataW H} {p : List MemPlace} (hv : Value.okWide Try.prog W .any base 44 v)
    (h : DataW.Trod enc Try.prog W 0 (fun _ => true) true 44 v d p) : ∃ A n c rs, v = .slice A n c ∧ rs.length = n ∧ n ≤ maxLen ∧ (∀ r ∈ rs, ∃ (m : Int) (s : ByteArray), r = entL m s ∧ s.size ≤ maxLen) ∧ ManyAt W A 2 rs :=
  open_many (z := 2) (by decide) Try.underlying44 cellsE _ (fun m k cs x ht => ent_cells ht) (fun cs ⟨m, s, he, _⟩ => by rw [he]; rfl) hv h

/-! ### the sixteen-byte blocks of pages, in order -/
def slots (p : List UInt8) : List (List UInt8) := [Nm.at_ p 0, Nm.at_ p 1, Nm.at_ p 2, Nm.at_ p 3]
def blocks (ps : List (List UInt8)) : List (List UInt8) := ps.flatMap slots
def okE (b : List UInt8) : Bool := (Nm.ent b).isSome
def allOk (bs : List (List UInt8)) : Bool := bs.all okE
/-- an entry's two cells -/
def eL (b : List UInt8) : List Value := entL (Nm.entN (Nm.ent b)) (strOf (Nm.entS (Nm.ent b)))
theorem eL_length (b : List UInt8) : (eL b).length = 2 := rfl
theorem blocks_length (ps : List (List UInt8)) : (blocks ps).length = 4 * ps.length := by
  induction ps with
  | nil => rfl
  | cons p t ih => unfold blocks at ih ⊢; rw [List.flatMap_cons, List.length_append, ih, List.length_cons]; unfold slots; simp; omega
theorem eL_one (b : List UInt8) : ∀ v ∈ eL b, v.oneCell' = true := entL_one _ _
theorem slots_length (p : List UInt8) : (slots p).length = 4 := rfl
theorem slots_at (p : List UInt8) (j : Nat) (h : j < 4) : (slots p).take (j + 1) = (slots p).take j ++ [Nm.at_ p j] := by
  have : j = 0 ∨ j = 1 ∨ j = 2 ∨ j = 3 := by omega
  rcases this with rfl | rfl | rfl | rfl <;> rfl
theorem blocks_more (ps : List (List UInt8)) (k : Nat) (p : List UInt8) (h : ps[k]? = some p) : blocks (ps.take (k + 1)) = blocks (ps.take k) ++ slots p := by
  obtain ⟨hk, he⟩ := List.getElem?_eq_some_iff.1 h
  rw [List.take_succ_eq_append_getElem hk, he]
  unfold blocks
  rw [List.flatMap_append]
  simp
theorem allOk_app (a b : List (List UInt8)) : allOk (a ++ b) = (allOk a && allOk b) := by unfold allOk; rw [List.all_append]
/-- a block that is none spoils all -/
theorem allOk_no (ps : List (List UInt8)) (k : Nat) (p : List UInt8) (h : ps[k]? = some p) (j : Nat) (hj : j < 4) (hb : okE (Nm.at_ p j) = false) : allOk (blocks ps) = false := by
  cases hc : allOk (blocks ps) with
  | false => rfl
  | true =>
    exfalso
    have hm : Nm.at_ p j ∈ blocks ps := by
      unfold blocks
      rw [List.mem_flatMap]
      refine ⟨p, List.mem_of_getElem? h, ?_⟩
      have : j = 0 ∨ j = 1 ∨ j = 2 ∨ j = 3 := by omega
      rcases this with rfl | rfl | rfl | rfl <;> simp [slots]
    have := List.all_eq_true.1 hc _ hm
    rw [hb] at this
    cases this
theorem cells_length (bs : List (List UInt8)) : (bs.flatMap eL).length = bs.length * 2 := by
  induction bs with
  | nil => rfl
  | cons b t ih => rw [List.flatMap_cons, List.length_append, ih, eL_length, List.length_cons]; omega
theorem cells_at : ∀ (bs : List (List UInt8)) (i : Nat) (b : List UInt8) (j : Nat) (v : Value), bs[i]? = some b → (eL b)[j]? = some v → (bs.flatMap eL)[i * 2 + j]? = some v
  | [], i, x, j, v, hx, _ => by simp at hx
  | y :: r, 0, x, j, v, hx, hv => by
    simp at hx
    subst hx
    have hj : j < 2 := (List.getElem?_eq_some_iff.1 hv).1
    rw [List.flatMap_cons, Nat.zero_mul, Nat.zero_add, List.getElem?_append_left (by rw [eL_length]; exact hj)]
    exact hv
  | y :: r, i + 1, x, j, v, hx, hv => by
    rw [List.flatMap_cons, List.getElem?_append_right (by rw [eL_length]; omega), eL_length, show (i + 1) * 2 + j - 2 = i * 2 + j by omega]
    exact cells_at r i x j v (by simpa using hx) hv
theorem info_ent : (Try.prog.info? 23).map (fun i => (i.zero, i.size, i.bytes)) = some (some (.agg #[.int .i64 0, .string ⟨#[]⟩]), 2, 24) := by kernel_rfl
/-- entries that a call owns are rows that lie there -/
theorem owns_many {w : World} {base : Nat} {A : Option Addr} {n c : Nat} {bs : List (List UInt8)} (h : w.ownsRow base 23 2 (.slice A n c) n (bs.flatMap eL)) (hn : n = bs.length) : ManyAt w A 2 (bs.map eL) := ⟨fun h0 => by
  rw [List.length_map] at h0
  obtain ⟨h1, h2⟩ := h
  rcases h2 with ⟨e, e2⟩ | ⟨g, cap, cur, e, hb, hg, _, _, hsz, htk⟩
  · exfalso; omega
  · injection e with e _ _
    refine ⟨g, 0, e, (Array.getElem?_eq_some_iff.1 hg).1, fun i x hxi j v hv => ?_⟩
    rw [List.getElem?_map] at hxi
    obtain ⟨b, hbi, rfl⟩ := Option.map_eq_some_iff.1 hxi
    have hf := cells_at bs i b j v hbi hv
    rw [← htk] at hf
    have hlt : i * 2 + j < n * 2 := by
      have := (List.getElem?_eq_some_iff.1 hf).1
      rw [List.length_take] at this; omega
    rw [List.getElem?_take_of_lt hlt] at hf
    simp only [World.cell?, hg, Nat.zero_add]
    simp only [Option.isSome_none, Bool.false_eq_true, if_false]
    rw [← Array.getElem?_toList]
    exact hf⟩
theorem owns_below {w w' : World} {base : Nat} {e : TypeId} {size : Nat} {v : Value} {n : Nat} {xs : List Value} (h : w.ownsRow base e size v n xs) (hb : Below w.heap.size w w') : w'.ownsRow base e size v n xs := by
  refine ⟨h.1, ?_⟩
  rcases h.2 with h2 | ⟨g, cap, cur, h1, h2, h3, h4⟩
  · exact Or.inl h2
  · exact Or.inr ⟨g, cap, cur, h1, h2, (hb.block g (Array.getElem?_eq_some_iff.1 h3).1).trans h3, h4⟩
theorem owns_slice {w : World} {base : Nat} {e : TypeId} {size : Nat} {v : Value} {k : Nat} {xs : List Value} (h : w.ownsRow base e size v k xs) : ∃ A c, v = .slice A k c := by
  rcases h.2 with ⟨e1, e2⟩ | ⟨g, cap, cur, e1, _⟩
  · exact ⟨none, 0, by rw [e1, e2]⟩
  · exact ⟨_, _, e1⟩
theorem cell_new (w : World) (vs : List Value) (t : TypeId) : ∀ j u, vs[j]? = some u → (w.alloc (.cells vs.toArray t)).cell? ((⟨w.heap.size, 0, none⟩ : Addr).add j) = some u := fun j u hj => by
  have := (rowAt_new w vs t).range j u hj
  rw [Nat.zero_add] at this
  unfold Addr.add
  by_cases e : j = 0
  · subst e; rw [if_pos rfl]; exact this
  · rw [if_neg e, Nat.zero_add]; exact this
theorem wpList_load_at {t : TypeId} {n : Nat} (ht : RowT t n) {ops : Array Oper} {rest : List Oper} {op : Oper} {a : Act} {Q : Exit → Act → World → Prop} {w : World} {b o : Nat} {vs : List Value} (hr : w.rangeAt b o vs) (hl : vs.length = n) (hgd : op.guard = none) (x : Operand) (ho : op.op = .load t x)
    (hx : a.eval x = .pointer (some ⟨b, o, none⟩)) (h : wpList Try.prog ops Q rest (a.put op.dst (.agg vs.toArray)) w) : wpList Try.prog ops Q (op :: rest) a w := by
  obtain ⟨d, hd, hrow⟩ := ht.row
  exact wpList_load_mid hgd t x ho b o hx vs d hr hd hrow (by rw [ht.info, hl]) h
theorem run_one (n : Int) (s : ByteArray) (w : World) : (Instr.buildSlice 44 1 #[(0, entV n s)]).run Try.prog w = .ok (.slice (some ⟨w.heap.size, 0, none⟩) 1 1) (w.alloc (.cells (entL n s).toArray 23)) := by
  unfold entV entL
  go_simp
theorem exec_one {ρ : Operand → Value} {op : Oper} {y : Operand} {n : Int} {s : ByteArray} {w : World} (ho : op.op = .buildSlice 44 1 #[(0, y)]) (hy : ρ y = entV n s) :
    (execOp ρ op).run Try.prog w = .ok (.value (.slice (some ⟨w.heap.size, 0, none⟩) 1 1)) (w.alloc (.cells (entL n s).toArray 23)) := by
  have hr := run_one n s w
  unfold execOp
  simp only [ho, List.map_toArray, List.map_cons, List.map_nil, hy, Sem.run_bind, hr, Result.andThen_ok, Sem.run_pure]
theorem wpList_one {ops : Array Oper} {rest : List Oper} {op : Oper} {a : Act} {Q : Exit → Act → World → Prop} {w : World} {b : List UInt8} (hgd : op.guard = none) (y : Operand) (ho : op.op = .buildSlice 44 1 #[(0, y)]) (hy : a.eval y = .agg (eL b).toArray)
    (h : wpList Try.prog ops Q rest (a.put op.dst (.slice (some ⟨w.heap.size, 0, none⟩) 1 1)) (w.alloc (.cells (eL b).toArray 23))) : wpList Try.prog ops Q (op :: rest) a w :=
  wpList_plain hgd fun _ hK => by
    unfold Oper.wp
    rw [exec_one ho (hy.trans (entV_def _ _))]
    exact hK _ _ h
theorem pageT : RowT 32 64 := ⟨⟨_, Try.underlying32, rfl⟩, by kernel_rfl⟩

/-! ### the loops of All -/
/-- what stands in memory between the rounds: the pages that came in, the entries that were appended -/
structure AlS (w0 : World) (A : Option Addr) (n : Nat) (ps : List (List UInt8)) (l : Value) (bs : List (List UInt8)) (W : World) : Prop where
  pages : PagesIn W A n ps
  far : 0 < n → ∀ b off, A = some ⟨b, off, none⟩ → b < w0.heap.size
  own : W.ownsRow w0.heap.size 23 2 l bs.length (bs.flatMap eL)
  bel : Below w0.heap.size w0 W
theorem PagesIn.step {w w' : World} {A : Option Addr} {n : Nat} {ps : List (List UInt8)} (h : PagesIn w A n ps) (hb : Below w.heap.size w w') : PagesIn w' A n ps := ⟨h.len, h.small, h.size, h.rows.step hb⟩
theorem AlS.call {w0 : World} {A : Option Addr} {n : Nat} {ps : List (List UInt8)} {l : Value} {bs : List (List UInt8)} {W W' : World} (k : AlS w0 A n ps l bs W) (hb : Below W.heap.size W W') : AlS w0 A n ps l bs W' :=
  ⟨k.pages.step hb, k.far, owns_below k.own hb, k.bel.trans (hb.mono k.bel.size)⟩
theorem AlS.grow {w0 : World} {A : Option Addr} {n : Nat} {ps : List (List UInt8)} {l l' : Value} {bs : List (List UInt8)} {b : List UInt8} {W W' : World} (k : AlS w0 A n ps l bs W) (hg : W.grownBy W' l.ownBlock) (hown : W'.ownsRow w0.heap.size 23 2 l' (bs.length + 1) (bs.flatMap eL ++ eL b)) : AlS w0 A n ps l' (bs ++ [b]) W' where
  pages := ⟨k.pages.len, k.pages.small, k.pages.size, ⟨fun h0 => by
    obtain ⟨g, off, e, hlt, hc⟩ := k.pages.rows.cells h0
    have hgl := k.far (by rw [List.length_map, k.pages.len] at h0; exact h0) g off e
    refine ⟨g, off, e, Nat.lt_of_lt_of_le hlt hg.size, fun i r hi j v hv => ?_⟩
    have hne : some g ≠ l.ownBlock := fun q => by have := (k.own.lt g q.symm).1; omega
    have hblk := hg.block g hlt hne
    have := hc i r hi j v hv
    rw [← this]
    exact World.cell?_of_block (a := ⟨g, off + i * 64 + j, none⟩) hblk⟩⟩
  far := k.far
  own := by
    rw [List.flatMap_append, List.length_append]
    simpa using hown
  bel := k.bel.grown hg k.bel.size (fun j hj => (k.own.lt j hj).1)
/-- the same in a round, with the page -/
structure AlP (w0 : World) (A : Option Addr) (n : Nat) (ps : List (List UInt8)) (l : Value) (bs : List (List UInt8)) (B : Nat) (p : List UInt8) (W : World) : Prop where
  al : AlS w0 A n ps l bs W
  page : PageAt W B p
  ne : l.ownBlock ≠ some B
theorem AlP.call {w0 : World} {A : Option Addr} {n : Nat} {ps : List (List UInt8)} {l : Value} {bs : List (List UInt8)} {B : Nat} {p : List UInt8} {W W' : World} (k : AlP w0 A n ps l bs B p W) (hb : Below W.heap.size W W') : AlP w0 A n ps l bs B p W' := ⟨k.al.call hb, k.page.step hb, k.ne⟩
theorem AlP.grow {w0 : World} {A : Option Addr} {n : Nat} {ps : List (List UInt8)} {l l' : Value} {bs : List (List UInt8)} {b : List UInt8} {B : Nat} {p : List UInt8} {W W' : World} (k : AlP w0 A n ps l bs B p W) (hg : W.grownBy W' l.ownBlock) (hown : W'.ownsRow w0.heap.size 23 2 l' (bs.length + 1) (bs.flatMap eL ++ eL b)) (hloc : l'.ownBlock = l.ownBlock ∨ l'.ownBlock = some W.heap.size) : AlP w0 A n ps l' (bs ++ [b]) B p W' where
  al := k.al.grow hg hown
  page := rows_page (by
    have hB := k.page.lt
    have hblk := hg.block B hB (Ne.symm k.ne)
    refine ⟨fun j v hv => ?_, fun j hj => ?_⟩
    · have := (page_rows k.page).range j v hv
      rw [← this]
      exact World.cell?_of_block (a := ⟨B, 0 + j, none⟩) hblk
    · have := (page_rows k.page).free j hj
      rw [World.cell?_of_block (a := ⟨B, 0 + j, none⟩) hblk, World.frozen?_of_block (a := ⟨B, 0 + j, none⟩) hblk]
      exact this) k.page.len
  ne := by
    rcases hloc with e | e
    · rw [e]; exact k.ne
    · rw [e]
      intro q
      injection q with q
      have := k.page.lt
      omega
theorem AlP.start {w0 : World} {A : Option Addr} {n : Nat} {ps : List (List UInt8)} {l : Value} {bs : List (List UInt8)} {p : List UInt8} {W W2 : World} (k : AlS w0 A n ps l bs W) (hb : Below W.heap.size W W2) (hp : PageAt W2 W.heap.size p) : AlP w0 A n ps l bs W.heap.size p W2 :=
  ⟨k.call hb, hp, fun q => by have := (k.own.lt _ q).2; omega⟩
end Go.Proofs.Ytejedkdlehgnpaa
