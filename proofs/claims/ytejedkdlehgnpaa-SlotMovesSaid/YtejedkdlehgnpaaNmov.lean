/-
  A page and the entries that were put into it, one by one: mathematics, memory.
-/
import Derived.Test.YtejedkdlehgnpaaNallw
import Derived.Great.BuildSlice
namespace Go.Proofs.Ytejedkdlehgnpaa
open Go.ChangeShapes Go.WideShapes Go.ChangeAt Go.RowKit

theorem wq_at {ops : Array Oper} {rest : List Oper} {op : Oper} {a : Act} {Q : Act → Prop} {C : World → Prop} {t : TypeId} {n b o : Nat} {vs : List Value} (ht : RowT t n) (hl : vs.length = n) (x : Operand) (ho : op.op = .load t x) (hx : a.eval x = .pointer (some ⟨b, o, none⟩)) (hw : Region.wanted op (yielded ops a.tmps) = true)
    (hC : ∀ w, C w → w.rangeAt b o vs) (h : Wq ops C Q rest (a.put op.dst (.agg vs.toArray))) : Wq ops C Q (op :: rest) a := by
  refine wq_take (.agg vs.toArray) hw (fun w hc => ?_) h
  obtain ⟨d, hd, hr⟩ := ht.row
  have hrun := run_loadVar_mid (P := Try.prog) w b o t vs d (hC w hc) hd hr (by rw [ht.info, hl])
  unfold execOp
  simp only [ho, hx, Instr.loadAt, Instr.sureAddr, Sem.run_bind, Sem.run_pure, Result.andThen_ok, hrun]

/-! ### the page and the entries -/
structure MvI (pg : List UInt8) (ws : List (Int × ByteArray)) : Prop where
  len : ws.length = 4
  pl : pg.length = 64
  each : ∀ (k : Nat) (x : Int × ByteArray), ws[k]? = some x → Nm.at_ pg k = Nm.slot x.1 x.2.data.toList ∧ Nm.standB x.1 x.2.data.toList = true
def none4 : List (Int × ByteArray) := [(0, ⟨#[]⟩), (0, ⟨#[]⟩), (0, ⟨#[]⟩), (0, ⟨#[]⟩)]
theorem mvI_zero : MvI zeros none4 where
  len := rfl
  pl := zeros_length
  each := fun k x h => by
    match k, h with
    | 0, h => injection h with h; subst h; decide
    | 1, h => injection h with h; subst h; decide
    | 2, h => injection h with h; subst h; decide
    | 3, h => injection h with h; subst h; decide
    | k + 4, h => simp [none4] at h
theorem MvI.put {pg : List UInt8} {ws : List (Int × ByteArray)} (h : MvI pg ws) (k : Nat) (hk : k < 4) (n : Int) (s : ByteArray) (hs : Nm.standB n s.data.toList = true) : MvI (putF pg (k : Int) n s.data.toList) (ws.set k (n, s)) := by
  have hb := Nm.slot_length n (Nm.stand_bd hs).2.2
  have e : putF pg (k : Int) n s.data.toList = Nm.lay pg k (Nm.slot n s.data.toList) := by
    unfold putF
    rw [if_pos ⟨decide_eq_true ⟨by omega, by omega⟩, hs⟩, Int.toNat_natCast]
  rw [e]
  refine ⟨by rw [List.length_set, h.len], Nm.lay_length h.pl hk hb, fun j x hx => ?_⟩
  rw [List.getElem?_set] at hx
  by_cases hj : k = j
  · subst hj
    rw [if_pos rfl, if_pos (by rw [h.len]; exact hk)] at hx
    injection hx with hx
    subst hx
    exact ⟨Nm.at_lay h.pl hk hb, hs⟩
  · rw [if_neg hj] at hx
    rw [Nm.at_other h.pl hk (Ne.symm hj) hb]
    exact h.each j x hx
theorem putF_no {pg : List UInt8} {i n : Int} {s : List UInt8} (hs : Nm.standB n s = false) : putF pg i n s = pg := by
  unfold putF
  rw [if_neg (fun h => by rw [hs] at h; cases h.2)]
theorem four_of {α : Type} {l : List α} (h : l.length = 4) : ∃ a b c d, l = [a, b, c, d] := by
  match l, h with
  | [a, b, c, d], _ => exact ⟨a, b, c, d, rfl⟩
def entX (x : Int × ByteArray) : List Value := entL x.1 x.2
theorem entX_length (x : Int × ByteArray) : (entX x).length = 2 := rfl
theorem eL_slot {b : List UInt8} {x : Int × ByteArray} (h : b = Nm.slot x.1 x.2.data.toList) (hs : Nm.standB x.1 x.2.data.toList = true) : eL b = entX x ∧ okE b = true := by
  unfold eL okE entX
  rw [h, Nm.ent_slot hs]
  refine ⟨?_, rfl⟩
  show entL x.1 (strOf x.2.data.toList) = _
  rw [strOf_bytes]
theorem MvI.all {pg : List UInt8} {ws : List (Int × ByteArray)} (h : MvI pg ws) : (blocks [pg]).map eL = ws.map entX ∧ allOk (blocks [pg]) = true ∧ (blocks [pg]).length = 4 := by
  obtain ⟨a, b, c, d, rfl⟩ := four_of h.len
  obtain ⟨a1, a2⟩ := h.each 0 a rfl
  obtain ⟨b1, b2⟩ := h.each 1 b rfl
  obtain ⟨c1, c2⟩ := h.each 2 c rfl
  obtain ⟨d1, d2⟩ := h.each 3 d rfl
  have e : blocks [pg] = [Nm.at_ pg 0, Nm.at_ pg 1, Nm.at_ pg 2, Nm.at_ pg 3] := rfl
  rw [e]
  obtain ⟨a3, a4⟩ := eL_slot a1 a2
  obtain ⟨b3, b4⟩ := eL_slot b1 b2
  obtain ⟨c3, c4⟩ := eL_slot c1 c2
  obtain ⟨d3, d4⟩ := eL_slot d1 d2
  refine ⟨by rw [List.map_cons, List.map_cons, List.map_cons, List.map_cons, a3, b3, c3, d3]; rfl, ?_, rfl⟩
  unfold allOk
  rw [List.all_cons, List.all_cons, List.all_cons, List.all_cons, a4, b4, c4, d4]
  rfl

/-! ### in memory -/
def wantL (ws : List (Int × ByteArray)) : List Value := ws.flatMap entX
theorem wantL_length {ws : List (Int × ByteArray)} (h : ws.length = 4) : (wantL ws).length = 8 := by
  obtain ⟨a, b, c, d, rfl⟩ := four_of h
  rfl
theorem want_at {ws : List (Int × ByteArray)} (h : ws.length = 4) (k : Nat) (x : Int × ByteArray) (hx : ws[k]? = some x) {w : World} {b : Nat} (hr : RowAt w b (wantL ws)) : w.rangeAt b (k * 2) (entX x) := by
  obtain ⟨a0, a1, a2, a3, rfl⟩ := four_of h
  intro j v hv
  have hj : j < 2 := (List.getElem?_eq_some_iff.1 hv).1
  have key : (wantL [a0, a1, a2, a3])[k * 2 + j]? = some v := by
    have hk : k = 0 ∨ k = 1 ∨ k = 2 ∨ k = 3 := by have := (List.getElem?_eq_some_iff.1 hx).1; simp at this; omega
    have hj2 : j = 0 ∨ j = 1 := by omega
    rcases hk with rfl | rfl | rfl | rfl <;> (injection hx with hx; subst hx; rcases hj2 with rfl | rfl <;> exact hv)
  exact hr.cell (k * 2 + j) v key
theorem want_get (a0 a1 a2 a3 x : Int × ByteArray) (k j : Nat) (hk : k < 4) (hj : j < 8) : (wantL ([a0, a1, a2, a3].set k x))[j]? = if k * 2 ≤ j ∧ j < k * 2 + 2 then (entX x)[j - k * 2]? else (wantL [a0, a1, a2, a3])[j]? := by
  have hk4 : k = 0 ∨ k = 1 ∨ k = 2 ∨ k = 3 := by omega
  have hj8 : j = 0 ∨ j = 1 ∨ j = 2 ∨ j = 3 ∨ j = 4 ∨ j = 5 ∨ j = 6 ∨ j = 7 := by omega
  rcases hk4 with rfl | rfl | rfl | rfl <;> rcases hj8 with rfl | rfl | rfl | rfl | rfl | rfl | rfl | rfl <;> rfl
theorem want_set {ws : List (Int × ByteArray)} (h : ws.length = 4) (k : Nat) (hk : k < 4) (x : Int × ByteArray) {w : World} {b : Nat} (hr : RowAt w b (wantL ws)) : RowAt (w.setCells b (k * 2) (entX x)) b (wantL (ws.set k x)) := by
  have h8 := wantL_length h
  have h8' : (wantL (ws.set k x)).length = 8 := wantL_length (by rw [List.length_set, h])
  have hsome : ∀ i, i < 8 → (w.cell? ⟨b, i, none⟩).isSome = true := fun i hi => by rw [hr.cell i _ (List.getElem?_eq_getElem (by omega))]; rfl
  have hg : ∀ j, j < 8 → (wantL (ws.set k x))[j]? = if k * 2 ≤ j ∧ j < k * 2 + 2 then (entX x)[j - k * 2]? else (wantL ws)[j]? := fun j hj => by
    obtain ⟨a0, a1, a2, a3, rfl⟩ := four_of h
    exact want_get a0 a1 a2 a3 x k j hk hj
  have hval : ∀ j v, (wantL (ws.set k x))[j]? = some v → (w.setCells b (k * 2) (entX x)).cell? ⟨b, j, none⟩ = some v := by
    intro j v hv
    have hj : j < 8 := by have := (List.getElem?_eq_some_iff.1 hv).1; omega
    rw [hg j hj] at hv
    by_cases hin : k * 2 ≤ j ∧ j < k * 2 + 2
    · rw [if_pos hin] at hv
      have h1 := World.cell?_setCells_in b (entX x) (k * 2) w (fun i hi => hsome (k * 2 + i) (by rw [entX_length] at hi; omega)) (j - k * 2) (by rw [entX_length]; omega)
      rw [show k * 2 + (j - k * 2) = j by omega] at h1
      rw [h1, ← hv, List.getElem?_eq_getElem]
    · rw [if_neg hin] at hv
      rw [World.cell?_setCells_out b (entX x) (k * 2) w ⟨b, j, none⟩ (fun _ _ => by rw [entX_length]; show j < k * 2 ∨ k * 2 + 2 ≤ j; omega)]
      exact hr.cell j v hv
  refine ⟨fun j v hv => by rw [Nat.zero_add]; exact hval j v hv, fun j hj => ?_⟩
  rw [Nat.zero_add, World.frozen?_setCells]
  exact ⟨by rw [hval j _ (List.getElem?_eq_getElem hj)]; rfl, hr.frozen j (by omega)⟩
theorem wpList_store_at {t : TypeId} {n : Nat} (ht : RowT t n) {ops : Array Oper} {rest : List Oper} {op : Oper} {a : Act} {Q : Exit → Act → World → Prop} {w : World} {b o : Nat} {vs : List Value} (hth : w.there b o n) (hl : vs.length = n) (ho1 : ∀ v ∈ vs, v.oneCell' = true) (hgd : op.guard = none) (x y : Operand) (ho : op.op = .store t x y)
    (hx : a.eval x = .pointer (some ⟨b, o, none⟩)) (hy : a.eval y = .agg vs.toArray) (hn : wpList Try.prog ops Q rest (a.put op.dst undef) (w.setCells b o vs)) : wpList Try.prog ops Q (op :: rest) a w :=
  wpList_store_mid hgd t x y ho b o vs.toArray hx hy (by rw [List.size_toArray, hl]; exact hth) (by rw [ht.info, List.size_toArray, hl]) (all_oneCell_toArray ho1) (by simpa using hn)

/-! ### a slice of one page -/
theorem page_type : ∃ i z, Try.prog.info? 32 = some i ∧ i.zero = some z ∧ i.size = 64 ∧ i.bytes = 64 ∧ z.cells.size = 64 := by
  have h1 := page_info
  have h2 : (Try.prog.info? 32).map (·.bytes) = some 64 := by kernel_rfl
  have h3 : ((Try.prog.info? 32).bind (·.zero)).map (·.cells.size) = some 64 := by kernel_rfl
  cases h : Try.prog.info? 32 with
  | none => rw [h] at h1; cases h1
  | some i =>
    rw [h] at h1 h2 h3
    cases hz : i.zero with
    | none => simp [hz] at h3
    | some z =>
      simp [hz] at h1 h2 h3
      exact ⟨i, z, rfl, hz, h1, h2, h3⟩
theorem run_buildPage (w : World) (p : List UInt8) (hp : p.length = 64) : (Instr.buildSlice 43 1 #[(0, pageV p)]).run Try.prog w = .ok (.slice (some ⟨w.heap.size, 0, none⟩) 1 1) (w.alloc (.cells (byteVals p).toArray 32)) := by
  obtain ⟨i, z, hi, hz, hs, _, _⟩ := page_type
  refine run_buildSlice w 43 32 1 #[(0, pageV p)] _ i z Try.underlying43 hi hz (by rw [hs]; omega) (by rw [hs]; omega) ?_
  rw [hs]
  have h := Great.fill_whole (s := 64) (by omega) [pageV p] ((Array.range (1 * 64)).map (z.cells[· % z.cells.size]!)) (fun v hv => by
    rw [List.mem_singleton] at hv
    rw [hv]
    show (byteVals p).toArray.size = 64
    rw [List.size_toArray, byteVals_length, hp]) (by simp)
  refine h.trans ?_
  congr 1
  show ([pageV p].flatMap fun v => v.cells.toList).toArray = _
  simp [pageV, Value.cells]
theorem wpList_buildPage {ops : Array Oper} {rest : List Oper} {o : Oper} {a : Act} {w : World} {Q : Exit → Act → World → Prop} {p : List UInt8} (hp : p.length = 64) (hgd : o.guard = none) (x : Operand) (ho : o.op = .buildSlice 43 1 #[(0, x)]) (hx : a.eval x = pageV p)
    (h : wpList Try.prog ops Q rest (a.put o.dst (.slice (some ⟨w.heap.size, 0, none⟩) 1 1)) (w.alloc (.cells (byteVals p).toArray 32))) : wpList Try.prog ops Q (o :: rest) a w :=
  wpList_plain hgd fun _ hK => by
    have hr := run_buildPage w p hp
    unfold Oper.wp execOp
    simp only [ho, List.map_toArray, List.map_cons, List.map_nil, hx, Sem.run_bind, hr, Result.andThen_ok]
    exact hK _ _ h
theorem one_page (w : World) (p : List UInt8) (hp : p.length = 64) : PagesIn (w.alloc (.cells (byteVals p).toArray 32)) (some ⟨w.heap.size, 0, none⟩) 1 [p] where
  len := rfl
  small := by unfold maxLen; omega
  size := fun q hq => by rw [List.mem_singleton] at hq; rw [hq]; exact hp
  rows := ⟨fun _ => ⟨w.heap.size, 0, rfl, by simp, fun i r hi => by
    match i, hi with
    | 0, hi =>
      injection hi with hi
      subst hi
      exact (rowAt_new w (byteVals p) _).range
    | i + 1, hi => simp at hi⟩⟩

/-! ### bytes that came in -/
theorem open_bytes {H : Type} {enc : TypeId × Value → H} {W : World} {base : Nat} {v : Value} {d : DataW H} {p : List MemPlace} (hv : Value.okWide Try.prog W .any base 48 v)
    (h : DataW.Trod enc Try.prog W 0 (fun _ => true) true 48 v d p) : ∃ A n c rs, v = .slice A n c ∧ rs.length = n ∧ n ≤ maxLen ∧ (∀ r ∈ rs, ∃ x : UInt8, r = [.int .u8 (x.toNat : Int)]) ∧ ManyAt W A 1 rs :=
  open_many (z := 1) (by decide) Try.underlying48 cells8 _ (fun m k cs x ht => by
    obtain ⟨v, hv, _, hw⟩ := DataW.trod_int Try.underlying5 ht
    have hb := bounds_u8 hw
    refine ⟨UInt8.ofNat v.toNat, ?_⟩
    rw [hv, UInt8.toNat_ofNat']
    congr 2
    omega) (fun cs ⟨x, he⟩ => by rw [he]; rfl) hv h

/-! ### what stands in memory in the loop -/
structure MvD (w0 : World) (A0 : Option Addr) (r0 : List (List Value)) (A1 : Option Addr) (r1 : List (List Value)) (D5 D6 : Nat) : Prop where
  f0 : 0 < r0.length → ∀ b off, A0 = some ⟨b, off, none⟩ → b ≠ D5 ∧ b ≠ D6
  f1 : 0 < r1.length → ∀ b off, A1 = some ⟨b, off, none⟩ → b ≠ D5 ∧ b ≠ D6
  ne : D5 ≠ D6
  lo5 : w0.heap.size ≤ D5
  lo6 : w0.heap.size ≤ D6
structure MvS (w0 : World) (A0 : Option Addr) (r0 : List (List Value)) (A1 : Option Addr) (r1 : List (List Value)) (D5 D6 : Nat) (pg : List UInt8) (ws : List (Int × ByteArray)) (W : World) : Prop where
  ats : ManyAt W A0 1 r0
  ents : ManyAt W A1 2 r1
  page : PageAt W D5 pg
  want : RowAt W D6 (wantL ws)
  bel : Below w0.heap.size w0 W
  inv : MvI pg ws
theorem RowAt.lt8 {w : World} {b : Nat} {ws : List (Int × ByteArray)} (h : ws.length = 4) (k : RowAt w b (wantL ws)) : b < w.heap.size := rows_lt k (by rw [wantL_length h]; decide)
theorem MvS.call {w0 : World} {A0 A1 : Option Addr} {r0 r1 : List (List Value)} {D5 D6 : Nat} {pg : List UInt8} {ws : List (Int × ByteArray)} {W W' : World} (k : MvS w0 A0 r0 A1 r1 D5 D6 pg ws W) (hb : Below W.heap.size W W') : MvS w0 A0 r0 A1 r1 D5 D6 pg ws W' :=
  ⟨k.ats.step hb, k.ents.step hb, k.page.step hb, k.want.below hb (RowAt.lt8 k.inv.len k.want), k.bel.trans (hb.mono k.bel.size), k.inv⟩
theorem ManyAt.put {w : World} {A : Option Addr} {z : Nat} {rs : List (List Value)} (h : ManyAt w A z rs) (D o : Nat) (us : List Value) (hD : 0 < rs.length → ∀ b off, A = some ⟨b, off, none⟩ → b ≠ D) : ManyAt (w.setCells D o us) A z rs :=
  ⟨fun h0 => by
    obtain ⟨b, off, e, hlt, hc⟩ := h.cells h0
    exact ⟨b, off, e, by rw [heap_setCells]; exact hlt, fun i r hi => World.rangeAt_setCells_apart (hc i r hi) _ _ _ (Or.inl (hD h0 b off e))⟩⟩
/-- a page is stored; no entry changes by it -/
theorem MvS.page_put {w0 : World} {A0 A1 : Option Addr} {r0 r1 : List (List Value)} {D5 D6 : Nat} {pg : List UInt8} {ws : List (Int × ByteArray)} {W : World} (k : MvS w0 A0 r0 A1 r1 D5 D6 pg ws W) (d : MvD w0 A0 r0 A1 r1 D5 D6) (q : List UInt8) (us : List (Int × ByteArray)) (W' : World)
    (hW : W' = W.setCells D5 0 (byteVals q)) (hu : us = ws) (hi : MvI q us) : MvS w0 A0 r0 A1 r1 D5 D6 q us W' := by
  subst hW hu
  exact ⟨k.ats.put _ _ _ (fun h b off e => (d.f0 h b off e).1), k.ents.put _ _ _ (fun h b off e => (d.f1 h b off e).1), k.page.put q hi.pl, k.want.put_other _ _ _ (Ne.symm d.ne), below_setCells _ d.lo5 _ _ _ k.bel, hi⟩
/-- the page is stored, the entry is to be: what stands there in between -/
structure MvH (w0 : World) (A0 : Option Addr) (r0 : List (List Value)) (A1 : Option Addr) (r1 : List (List Value)) (D5 D6 : Nat) (pg : List UInt8) (ws : List (Int × ByteArray)) (E : Nat) (vs : List Value) (W : World) : Prop where
  ats : ManyAt W A0 1 r0
  ents : ManyAt W A1 2 r1
  page : PageAt W D5 pg
  want : RowAt W D6 (wantL ws)
  len : ws.length = 4
  ent : RowAt W E vs
  pos : 0 < vs.length
  bel : Below w0.heap.size w0 W
theorem MvH.call {w0 : World} {A0 A1 : Option Addr} {r0 r1 : List (List Value)} {D5 D6 E : Nat} {vs : List Value} {pg : List UInt8} {ws : List (Int × ByteArray)} {W W' : World} (k : MvH w0 A0 r0 A1 r1 D5 D6 pg ws E vs W) (hb : Below W.heap.size W W') : MvH w0 A0 r0 A1 r1 D5 D6 pg ws E vs W' :=
  ⟨k.ats.step hb, k.ents.step hb, k.page.step hb, k.want.below hb (RowAt.lt8 k.len k.want), k.len, k.ent.below hb (rows_lt k.ent k.pos), k.pos, k.bel.trans (hb.mono k.bel.size)⟩
theorem MvS.add {w0 : World} {A0 A1 : Option Addr} {r0 r1 : List (List Value)} {D5 D6 : Nat} {pg : List UInt8} {ws : List (Int × ByteArray)} {vs : List Value} {W W' : World} (k : MvS w0 A0 r0 A1 r1 D5 D6 pg ws W) (hb : Below W.heap.size W W') (hr : RowAt W' W.heap.size vs) (hv : 0 < vs.length) : MvH w0 A0 r0 A1 r1 D5 D6 pg ws W.heap.size vs W' :=
  ⟨(k.call hb).ats, (k.call hb).ents, (k.call hb).page, (k.call hb).want, k.inv.len, hr, hv, (k.call hb).bel⟩
theorem MvH.page_put {w0 : World} {A0 A1 : Option Addr} {r0 r1 : List (List Value)} {D5 D6 E : Nat} {vs : List Value} {pg : List UInt8} {ws : List (Int × ByteArray)} {W : World} (k : MvH w0 A0 r0 A1 r1 D5 D6 pg ws E vs W) (d : MvD w0 A0 r0 A1 r1 D5 D6) (hE : D5 ≠ E) (q : List UInt8) (hq : q.length = 64) : MvH w0 A0 r0 A1 r1 D5 D6 q ws E vs (W.setCells D5 0 (byteVals q)) :=
  ⟨k.ats.put _ _ _ (fun h b off e => (d.f0 h b off e).1), k.ents.put _ _ _ (fun h b off e => (d.f1 h b off e).1), k.page.put q hq, k.want.put_other _ _ _ (Ne.symm d.ne), k.len, k.ent.put_other _ _ _ (Ne.symm hE), k.pos, below_setCells _ d.lo5 _ _ _ k.bel⟩
theorem MvH.want_put {w0 : World} {A0 A1 : Option Addr} {r0 r1 : List (List Value)} {D5 D6 E : Nat} {vs : List Value} {pg : List UInt8} {ws : List (Int × ByteArray)} {W : World} (k : MvH w0 A0 r0 A1 r1 D5 D6 pg ws E vs W) (d : MvD w0 A0 r0 A1 r1 D5 D6) (j : Nat) (hj : j < 4) (x : Int × ByteArray) (hi : MvI pg (ws.set j x)) : MvS w0 A0 r0 A1 r1 D5 D6 pg (ws.set j x) (W.setCells D6 (j * 2) (entX x)) :=
  ⟨k.ats.put _ _ _ (fun h b off e => (d.f0 h b off e).2), k.ents.put _ _ _ (fun h b off e => (d.f1 h b off e).2), k.page.put_other _ _ _ d.ne, want_set k.len j hj x k.want, below_setCells _ d.lo6 _ _ _ k.bel, hi⟩
theorem MvH.back {w0 : World} {A0 A1 : Option Addr} {r0 r1 : List (List Value)} {D5 D6 E : Nat} {vs : List Value} {pg : List UInt8} {ws : List (Int × ByteArray)} {W : World} (k : MvH w0 A0 r0 A1 r1 D5 D6 pg ws E vs W) (hi : MvI pg ws) : MvS w0 A0 r0 A1 r1 D5 D6 pg ws W := ⟨k.ats, k.ents, k.page, k.want, k.bel, hi⟩
theorem MvH.thereW {w0 : World} {A0 A1 : Option Addr} {r0 r1 : List (List Value)} {D5 D6 E : Nat} {vs : List Value} {pg : List UInt8} {ws : List (Int × ByteArray)} {W : World} (k : MvH w0 A0 r0 A1 r1 D5 D6 pg ws E vs W) (j : Nat) (hj : j < 4) : W.there D6 (j * 2) 2 := fun i hi => by
  have h8 := wantL_length k.len
  have := k.want.free (j * 2 + i) (by omega)
  rw [Nat.zero_add] at this
  exact this
theorem entV_size (n : Int) (s : ByteArray) : 0 < (entL n s).length := Nat.succ_pos 1
/-- the end: the entries that All gave, the entries that were put -/
structure MvT (w0 : World) (G : Option Addr) (D6 : Nat) (ws : List (Int × ByteArray)) (W : World) : Prop where
  got : ManyAt W G 2 (ws.map entX)
  want : RowAt W D6 (wantL ws)
  len : ws.length = 4
  bel : Below w0.heap.size w0 W
theorem MvT.call {w0 : World} {G : Option Addr} {D6 : Nat} {ws : List (Int × ByteArray)} {W W' : World} (k : MvT w0 G D6 ws W) (hb : Below W.heap.size W W') : MvT w0 G D6 ws W' := ⟨k.got.step hb, k.want.below hb (RowAt.lt8 k.len k.want), k.len, k.bel.trans (hb.mono k.bel.size)⟩
end Go.Proofs.Ytejedkdlehgnpaa
