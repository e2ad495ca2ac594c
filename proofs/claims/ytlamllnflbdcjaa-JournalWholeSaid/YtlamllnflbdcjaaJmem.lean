/-
  A journal in memory: slices of pages and of changes that lie in none of some blocks; a change in a variable; the journal's own block.
-/
import Derived.Test.YtlamllnflbdcjaaHnext
import Derived.Test.YtlamllnflbdcjaaDcrashw
import Derived.Test.YtlamllnflbdcjaaLeaf
import Derived.Test.YtlamllnflbdcjaaJgood
namespace Go.Proofs.Ytlamllnflbdcjaa
open Go.RowKit
open Dk (zeros zeros_length)
open Hd (Head rightB pageH)
open Jn (Chg)

/-! ### slices of rows of cells -/
def SlAt {α : Type} (w : World) (A : Option Addr) (L : List Nat) (k : Nat) (f : α → List Value) (xs : List α) : Prop :=
  0 < xs.length → ∃ b off, A = some ⟨b, off, none⟩ ∧ b < w.heap.size ∧ b ∉ L ∧ ∀ i x, xs[i]? = some x → w.rangeAt b (off + i * k) (f x)
theorem SlAt.only {α : Type} {w w' : World} {A : Option Addr} {L L' : List Nat} {k : Nat} {f : α → List Value} {xs : List α} (h : SlAt w A L k f xs) (ho : Only L' w w') (hL : ∀ x ∈ L', x ∈ L) : SlAt w' A L k f xs := fun h0 => by
  obtain ⟨b, off, e, h1, h2, h3⟩ := h h0
  exact ⟨b, off, e, Nat.lt_of_lt_of_le h1 ho.size, h2, fun i x hx j v hv => (ho.cell (p := ⟨b, off + i * k + j, none⟩) h1 (fun q => h2 (hL _ q))).trans (h3 i x hx j v hv)⟩
theorem SlAt.below {α : Type} {w w' : World} {A : Option Addr} {L : List Nat} {k : Nat} {f : α → List Value} {xs : List α} (h : SlAt w A L k f xs) (hb : Below w.heap.size w w') : SlAt w' A L k f xs := h.only (L' := []) (Only.below hb) (by simp)
theorem SlAt.mono {α : Type} {w : World} {A : Option Addr} {L L' : List Nat} {k : Nat} {f : α → List Value} {xs : List α} (h : SlAt w A L k f xs) (hL : ∀ x ∈ L', x ∈ L) : SlAt w A L' k f xs := fun h0 => by
  obtain ⟨b, off, e, h1, h2, h3⟩ := h h0
  exact ⟨b, off, e, h1, fun q => h2 (hL _ q), h3⟩
theorem SlAt.newer {α : Type} {w : World} {A : Option Addr} {L L' : List Nat} {k : Nat} {f : α → List Value} {xs : List α} (h : SlAt w A L k f xs) (hL : ∀ x ∈ L', x ∈ L ∨ w.heap.size ≤ x) : SlAt w A L' k f xs := fun h0 => by
  obtain ⟨b, off, e, h1, h2, h3⟩ := h h0
  exact ⟨b, off, e, h1, fun q => by rcases hL _ q with g | g; exact h2 g; omega, h3⟩
abbrev PgAt (w : World) (A : Option Addr) (L : List Nat) (ps : List (List UInt8)) : Prop := SlAt w A L 64 byteVals ps
theorem PgAt.row {w : World} {A : Option Addr} {L : List Nat} {ps : List (List UInt8)} (h : PgAt w A L ps) (hl : ps.length ≤ 1000) (hp : ∀ p ∈ ps, p.length = 64) : PageRow w A ps.length ps where
  len := rfl
  small := by unfold maxLen; omega
  size := hp
  cells := fun h0 => by
    obtain ⟨b, off, e, h1, _, h3⟩ := h h0
    exact ⟨b, off, e, h1, h3⟩
theorem RowsAt.slice {w : World} {b : Nat} {ps : List (List UInt8)} (h : RowsAt w b ps) {L : List Nat} (hb : b ∉ L) : PgAt w (some ⟨b, 0, none⟩) L ps := fun h0 =>
  ⟨b, 0, rfl, h.lt h0, hb, fun i p hp => by rw [Nat.zero_add]; exact h.range i p hp⟩
theorem RowsAt.below {w w' : World} {b : Nat} {ps : List (List UInt8)} (h : RowsAt w b ps) (hb : Below w.heap.size w w') (hl : b < w.heap.size) : RowsAt w' b ps := h.block (hb.block b hl)
theorem RowAt.block {w w' : World} {b : Nat} {vs : List Value} (h : RowAt w b vs) (hb : w'.heap[b]? = w.heap[b]?) : RowAt w' b vs := ⟨rangeAt_block h.range hb, there_block h.free hb⟩
theorem RowAt.only {w w' : World} {b : Nat} {v : Value} {vs : List Value} {L : List Nat} (h : RowAt w b (v :: vs)) (ho : Only L w w') (hL : b ∉ L) : RowAt w' b (v :: vs) := h.block (ho.block b h.lt hL)

/-! ### changes -/
def chgVals (c : Chg) : List Value := .int .i64 c.no :: byteVals c.page
def chgV (c : Chg) : Value := .agg (chgVals c).toArray
theorem chgVals_one (c : Chg) : ∀ v ∈ chgVals c, v.oneCell' = true := by
  intro v hv
  rcases List.mem_cons.1 hv with rfl | hv
  · rfl
  · exact byteVals_one _ v hv
theorem chgVals_length {c : Chg} (h : c.page.length = 64) : (chgVals c).length = 65 := by unfold chgVals; rw [List.length_cons, byteVals_length, h]
theorem chg_info : (Try.prog.info? 46).map (·.size) = some 65 := by kernel_rfl
abbrev ChAt (w : World) (A : Option Addr) (L : List Nat) (cs : List Chg) : Prop := SlAt w A L 65 chgVals cs
/-- a change in a variable -/
abbrev ChVar (w : World) (b : Nat) (c : Chg) : Prop := RowAt w b (chgVals c)
theorem ChVar.no {w : World} {b : Nat} {c : Chg} (h : ChVar w b c) : w.cell? ⟨b, 0, none⟩ = some (.int .i64 c.no) := RowAt.cell h 0 _ rfl
theorem ChVar.page {w : World} {b : Nat} {c : Chg} (h : ChVar w b c) : w.rangeAt b 1 (byteVals c.page) := fun j v hv => by
  have := h.range (j + 1) v (by unfold chgVals; exact hv)
  rwa [show 0 + (j + 1) = 1 + j by omega] at this
theorem wpList_load_chg {ops : Array Oper} {rest : List Oper} {op : Oper} {a : Act} {Q : Exit → Act → World → Prop} {w : World} {b o : Nat} {c : Chg} (hr : w.rangeAt b o (chgVals c)) (hp : c.page.length = 64) (hgd : op.guard = none) (x : Operand) (ho : op.op = .load 46 x)
    (hx : a.eval x = .pointer (some ⟨b, o, none⟩)) (h : wpList Try.prog ops Q rest (a.put op.dst (chgV c)) w) : wpList Try.prog ops Q (op :: rest) a w :=
  wpList_load_mid hgd 46 x ho b o hx (chgVals c) _ hr Try.underlying46 rfl (by rw [chg_info, chgVals_length hp]) h
theorem wpList_store_newchg {ops : Array Oper} {rest : List Oper} {op : Oper} {a : Act} {Q : Exit → Act → World → Prop} {w : World} {Z : Array Value} {t : TypeId} {c : Chg} (hp : c.page.length = 64) (hgd : op.guard = none) (x y : Operand) (ho : op.op = .store 46 x y)
    (hx : a.eval x = .pointer (some ⟨w.heap.size, 0, none⟩)) (hy : a.eval y = chgV c) (hZ : Z.size = 65)
    (h : ∀ W2, ChVar W2 w.heap.size c → Below w.heap.size w W2 → W2.heap.size = w.heap.size + 1 → wpList Try.prog ops Q rest (a.put op.dst undef) W2) :
    wpList Try.prog ops Q (op :: rest) a (w.alloc (.cells Z t)) := by
  have hlen : (chgVals c).toArray.size = 65 := by rw [List.size_toArray, chgVals_length hp]
  have ht : (w.alloc (.cells Z t)).there w.heap.size 0 65 := there_new w Z t _ (by omega)
  refine wpList_store_mid hgd 46 x y ho w.heap.size 0 (chgVals c).toArray hx hy (by rw [hlen]; exact ht) (by rw [chg_info, hlen]) (all_oneCell_toArray (chgVals_one c)) (h _ ?_ ?_ ?_)
  · exact ⟨World.rangeAt_setCells_same _ _ _ _ (by rw [List.toList_toArray, chgVals_length hp]; exact ht), World.there_setCells (by rw [chgVals_length hp]; exact ht) _ _ _⟩
  · exact below_setCells _ (Nat.le_refl _) _ _ _ ((Below.refl _ _).alloc (Nat.le_refl _) _)
  · rw [heap_setCells]; simp
def chgZero : Array Value := (chgVals ⟨0, zeros⟩).toArray
theorem chgZero_size : chgZero.size = 65 := by unfold chgZero; rw [List.size_toArray, chgVals_length zeros_length]
theorem zeroChg (w : World) : (zeroValue 46).run Try.prog w = .ok (.agg chgZero) w := by kernel_rfl

/-! ### a region as a value; the journal's own block -/
def regV (d a z : Nat) : Value := .agg #[.pointer (some ⟨d, 0, none⟩), .int .i64 (a : Int), .int .i64 (z : Int)]
def regVals (d a z : Nat) : List Value := [.pointer (some ⟨d, 0, none⟩), .int .i64 (a : Int), .int .i64 (z : Int)]
theorem regV_def (d a z : Nat) : Value.agg (regVals d a z).toArray = regV d a z := rfl
theorem reg_info : (Try.prog.info? 61).map (·.size) = some 3 := by kernel_rfl
def jVals (d a z : Nat) (q : Int) (o : Bool) : List Value := [.pointer (some ⟨d, 0, none⟩), .int .i64 (a : Int), .int .i64 (z : Int), .int .i64 q, .bool o]
/-- a journal: its block is none of the disk's -/
structure JAt (w : World) (j d a z : Nat) (q : Int) (o : Bool) : Prop where
  row : RowAt w j (jVals d a z q o)
theorem JAt.c0 {w : World} {j d a z : Nat} {q : Int} {o : Bool} (h : JAt w j d a z q o) : w.cell? ⟨j, 0, none⟩ = some (.pointer (some ⟨d, 0, none⟩)) := h.row.cell 0 _ rfl
theorem JAt.c1 {w : World} {j d a z : Nat} {q : Int} {o : Bool} (h : JAt w j d a z q o) : w.cell? ⟨j, 1, none⟩ = some (.int .i64 (a : Int)) := h.row.cell 1 _ rfl
theorem JAt.c2 {w : World} {j d a z : Nat} {q : Int} {o : Bool} (h : JAt w j d a z q o) : w.cell? ⟨j, 2, none⟩ = some (.int .i64 (z : Int)) := h.row.cell 2 _ rfl
theorem JAt.c3 {w : World} {j d a z : Nat} {q : Int} {o : Bool} (h : JAt w j d a z q o) : w.cell? ⟨j, 3, none⟩ = some (.int .i64 q) := h.row.cell 3 _ rfl
theorem JAt.c4 {w : World} {j d a z : Nat} {q : Int} {o : Bool} (h : JAt w j d a z q o) : w.cell? ⟨j, 4, none⟩ = some (.bool o) := h.row.cell 4 _ rfl
theorem JAt.f {w : World} {j d a z : Nat} {q : Int} {o : Bool} (h : JAt w j d a z q o) (i : Nat) (hi : i < 5) : w.frozen? ⟨j, i, none⟩ = false := by
  have := (h.row.free i hi).2
  rwa [Nat.zero_add] at this
theorem JAt.lt {w : World} {j d a z : Nat} {q : Int} {o : Bool} (h : JAt w j d a z q o) : j < w.heap.size := h.row.lt
theorem JAt.block {w w' : World} {j d a z : Nat} {q : Int} {o : Bool} (h : JAt w j d a z q o) (hb : w'.heap[j]? = w.heap[j]?) : JAt w' j d a z q o := ⟨h.row.block hb⟩
theorem JAt.only {w w' : World} {j d a z : Nat} {q : Int} {o : Bool} {L : List Nat} (h : JAt w j d a z q o) (ho : Only L w w') (hL : j ∉ L) : JAt w' j d a z q o := h.block (ho.block j h.lt hL)
theorem JAt.below {w w' : World} {j d a z : Nat} {q : Int} {o : Bool} (h : JAt w j d a z q o) (hb : Below w.heap.size w w') : JAt w' j d a z q o := h.block (hb.block j h.lt)
theorem JAt.reg {w : World} {j d a z : Nat} {q : Int} {o : Bool} (h : JAt w j d a z q o) : w.rangeAt j 0 (regVals d a z) := fun i v hv => h.row.range i v (by
  unfold regVals at hv
  unfold jVals
  match i, hv with
  | 0, hv => exact hv
  | 1, hv => exact hv
  | 2, hv => exact hv)
theorem JAt.setSeq {w : World} {j d a z : Nat} {q : Int} {o : Bool} (h : JAt w j d a z q o) (x : Int) : JAt (w.setCell ⟨j, 3, none⟩ (.int .i64 x)) j d a z x o where
  row := ⟨fun i v hv => by
      rw [Nat.zero_add]
      by_cases e : 3 = i
      · subst e
        have hv' : v = .int .i64 x := by unfold jVals at hv; simpa using hv.symm
        rw [hv']
        exact World.cell?_setCell_same' _ _ _ (by rw [h.c3]; rfl)
      · rw [World.cell?_setCell_other _ _ _ _ (fun q => e (by injection q))]
        have : (jVals d a z q o)[i]? = some v := by
          rw [← hv]
          unfold jVals
          match i, e with
          | 0, _ => rfl
          | 1, _ => rfl
          | 2, _ => rfl
          | 4, _ => rfl
          | _ + 5, _ => rfl
        have := h.row.range i v this
        rwa [Nat.zero_add] at this,
    fun i hi => by
      have hf := h.row.free i hi
      rw [World.frozen?_setCell]
      refine ⟨?_, hf.2⟩
      by_cases e : 3 = i
      · subst e
        rw [Nat.zero_add, World.cell?_setCell_same' _ _ _ (by rw [h.c3]; rfl)]; rfl
      · rw [World.cell?_setCell_other _ _ _ _ (fun q => e (by injection q with _ q; omega))]; exact hf.1⟩
theorem JAt.setOver {w : World} {j d a z : Nat} {q : Int} {o : Bool} (h : JAt w j d a z q o) (x : Bool) : JAt (w.setCell ⟨j, 4, none⟩ (.bool x)) j d a z q x where
  row := ⟨fun i v hv => by
      rw [Nat.zero_add]
      by_cases e : 4 = i
      · subst e
        have hv' : v = .bool x := by unfold jVals at hv; simpa using hv.symm
        rw [hv']
        exact World.cell?_setCell_same' _ _ _ (by rw [h.c4]; rfl)
      · rw [World.cell?_setCell_other _ _ _ _ (fun q => e (by injection q))]
        have : (jVals d a z q o)[i]? = some v := by
          rw [← hv]
          unfold jVals
          match i, e with
          | 0, _ => rfl
          | 1, _ => rfl
          | 2, _ => rfl
          | 3, _ => rfl
          | _ + 5, _ => rfl
        have := h.row.range i v this
        rwa [Nat.zero_add] at this,
    fun i hi => by
      have hf := h.row.free i hi
      rw [World.frozen?_setCell]
      refine ⟨?_, hf.2⟩
      by_cases e : 4 = i
      · subst e
        rw [Nat.zero_add, World.cell?_setCell_same' _ _ _ (by rw [h.c4]; rfl)]; rfl
      · rw [World.cell?_setCell_other _ _ _ _ (fun q => e (by injection q with _ q; omega))]; exact hf.1⟩
theorem wpList_load_reg {ops : Array Oper} {rest : List Oper} {op : Oper} {a : Act} {Q : Exit → Act → World → Prop} {w : World} {b d x0 z : Nat} (hr : w.rangeAt b 0 (regVals d x0 z)) (hgd : op.guard = none) (x : Operand) (ho : op.op = .load 61 x)
    (hx : a.eval x = .pointer (some ⟨b, 0, none⟩)) (h : wpList Try.prog ops Q rest (a.put op.dst (regV d x0 z)) w) : wpList Try.prog ops Q (op :: rest) a w :=
  wpList_load_mid hgd 61 x ho b 0 hx (regVals d x0 z) _ hr Try.underlying61 rfl reg_info h
end Go.Proofs.Ytlamllnflbdcjaa
