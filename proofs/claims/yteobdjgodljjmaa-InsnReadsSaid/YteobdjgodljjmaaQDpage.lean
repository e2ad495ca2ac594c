/-
  Pages in memory: a page that lies in a block of its own; what allocations, stores and what is made besides leave of it; pages held against each other.
-/
import Derived.Test.YteobdjgodljjmaaRows
import Derived.Test.YteobdjgodljjmaaQDmath
import Derived.WalkKit
import Derived.WalkSpells
import Derived.WalkLawsBesides
import Derived.Laws.BitsAllLaws
import Derived.Lib.Hide
import Derived.Deep.MidRow
import Derived.ChangeKeysEq
import Derived.Below
namespace Go.Proofs.Yteobdjgodljjmaa.Pq
open Go.RowKit

set_option maxRecDepth 100000 in
theorem ret_int {k : IntKind} {a b : Int} (h : a = b) : Ending.returned (.int k a) = .returned (.int k b) := by rw [h]
set_option maxRecDepth 100000 in
theorem ret_bool {a b : Bool} (h : a = b) : Ending.returned (.bool a) = .returned (.bool b) := by rw [h]

def byteVals (p : List UInt8) : List Value := p.map fun c => Value.int .u8 (c.toNat : Int)
set_option maxRecDepth 100000 in
theorem byteVals_length (p : List UInt8) : (byteVals p).length = p.length := by simp [byteVals]
set_option maxRecDepth 100000 in
theorem byteVals_one (p : List UInt8) : ∀ v ∈ byteVals p, v.oneCell' = true := by
  intro v hv
  obtain ⟨c, _, rfl⟩ := List.mem_map.1 hv
  rfl
set_option maxRecDepth 100000 in
theorem byteVals_at (p : List UInt8) (j : Nat) (h : j < p.length) : (byteVals p)[j]? = some (.int .u8 (p[j].toNat : Int)) := by
  unfold byteVals
  rw [List.getElem?_map, List.getElem?_eq_getElem h]; rfl
set_option maxRecDepth 100000 in
theorem byteVals_set (p : List UInt8) (i : Nat) (c : UInt8) : (byteVals p).set i (.int .u8 (c.toNat : Int)) = byteVals (p.set i c) := by
  unfold byteVals; rw [List.map_set]
set_option maxRecDepth 100000 in
theorem byteVals_inj (p q : List UInt8) (h : byteVals p = byteVals q) : p = q := by
  unfold byteVals at h
  refine List.map_inj_right (fun a b hab => ?_) |>.1 h
  injection hab with _ hab
  exact UInt8.toNat_inj.1 (by omega)

/-- a page's value -/
def pageV (p : List UInt8) : Value := .agg (byteVals p).toArray
set_option maxRecDepth 100000 in
theorem pageV_def (p : List UInt8) : Value.agg (byteVals p).toArray = pageV p := rfl

set_option maxRecDepth 100000 in
theorem page_info : (Try.prog.info? 67).map (·.size) = some 64 := by kernel_rfl
set_option maxRecDepth 100000 in
theorem cellsP : Try.prog.cellsOf 67 = 64 := by kernel_rfl
set_option maxRecDepth 100000 in
theorem cells8 : Try.prog.cellsOf 5 = 1 := by kernel_rfl

/-- a page that lies in a block of its own, and may be written -/
structure PageAt (w : World) (b : Nat) (p : List UInt8) : Prop where
  len : p.length = 64
  range : w.rangeAt b 0 (byteVals p)
  free : w.there b 0 64

set_option maxRecDepth 100000 in
theorem PageAt.cell {w : World} {b : Nat} {p : List UInt8} (h : PageAt w b p) (j : Nat) (hj : j < 64) : w.cell? ⟨b, j, none⟩ = some (.int .u8 ((p.getD j 0).toNat : Int)) := by
  have hj' : j < p.length := by rw [h.len]; exact hj
  have := h.range j _ (byteVals_at p j hj')
  rw [Nat.zero_add] at this
  rw [this, List.getD_eq_getElem?_getD, List.getElem?_eq_getElem hj']; rfl
set_option maxRecDepth 100000 in
theorem PageAt.isSome {w : World} {b : Nat} {p : List UInt8} (h : PageAt w b p) (j : Nat) (hj : j < 64) : (w.cell? ⟨b, j, none⟩).isSome = true := by
  rw [h.cell j hj]; rfl
set_option maxRecDepth 100000 in
theorem PageAt.frozen {w : World} {b : Nat} {p : List UInt8} (h : PageAt w b p) (j : Nat) (hj : j < 64) : w.frozen? ⟨b, j, none⟩ = false := by
  have := (h.free j hj).2
  rwa [Nat.zero_add] at this
set_option maxRecDepth 100000 in
theorem PageAt.lt {w : World} {b : Nat} {p : List UInt8} (h : PageAt w b p) : b < w.heap.size :=
  World.block_lt_of_cell? w _ (h.cell 0 (by omega))
set_option maxRecDepth 100000 in
theorem there_new (w : World) (Z : Array Value) (t : TypeId) (n : Nat) (h : n ≤ Z.size) : (w.alloc (.cells Z t)).there w.heap.size 0 n := by
  intro j hj
  rw [Nat.zero_add, World.cell?_alloc_mark, World.frozen?_alloc_mark, Array.getElem?_eq_getElem (by omega)]
  exact ⟨rfl, by simp⟩
set_option maxRecDepth 100000 in
theorem pageAt_new (w : World) (p : List UInt8) (t : TypeId) (hp : p.length = 64) : PageAt (w.alloc (.cells (byteVals p).toArray t)) w.heap.size p where
  len := hp
  range := fun j v hv => by
    rw [Nat.zero_add, World.cell?_alloc_mark]
    simpa using hv
  free := there_new w _ t _ (by rw [List.size_toArray, byteVals_length]; omega)
set_option maxRecDepth 100000 in
theorem PageAt.alloc {w : World} {b : Nat} {p : List UInt8} (h : PageAt w b p) (o : Obj) : PageAt (w.alloc o) b p := ⟨h.len, World.rangeAt_alloc h.range o, World.there_alloc h.free o⟩
set_option maxRecDepth 100000 in
theorem PageAt.drew {w : World} {b : Nat} {p : List UInt8} (h : PageAt w b p) : PageAt w.drew b p := ⟨h.len, (World.rangeAt_drew ..).2 h.range, (World.there_drew ..).2 h.free⟩
set_option maxRecDepth 100000 in
theorem PageAt.below {n : Nat} {w w' : World} {b : Nat} {p : List UInt8} (h : PageAt w b p) (hb : Below n w w') (hn : b < n) : PageAt w' b p where
  len := h.len
  range := fun j v hv => (hb.cell (p := ⟨b, 0 + j, none⟩) hn).trans (h.range j v hv)
  free := fun j hj => by
    rw [hb.cell (p := ⟨b, 0 + j, none⟩) hn, hb.frozen (p := ⟨b, 0 + j, none⟩) hn]
    exact h.free j hj
set_option maxRecDepth 100000 in
theorem PageAt.set {w : World} {b : Nat} {p : List UInt8} (h : PageAt w b p) (i : Nat) (c : UInt8) (hi : i < 64) : PageAt (w.setCell ⟨b, i, none⟩ (.int .u8 (c.toNat : Int))) b (p.set i c) where
  len := by rw [List.length_set, h.len]
  range := fun j v hv => by
    rw [Nat.zero_add]
    rw [← byteVals_set, List.getElem?_set] at hv
    by_cases e : i = j
    · subst e
      rw [if_pos rfl, if_pos (by rw [byteVals_length, h.len]; exact hi)] at hv
      injection hv with hv
      rw [← hv]
      exact World.cell?_setCell_same' _ _ _ (h.isSome i hi)
    · rw [if_neg e] at hv
      rw [World.cell?_setCell_other _ _ _ _ (fun q => e (by injection q))]
      have := h.range j v hv
      rwa [Nat.zero_add] at this
  free := fun j hj => by
    rw [Nat.zero_add]
    refine ⟨?_, by rw [World.frozen?_setCell]; exact h.frozen j hj⟩
    by_cases e : i = j
    · subst e
      rw [World.cell?_setCell_same' _ _ _ (h.isSome i hi)]; rfl
    · rw [World.cell?_setCell_other _ _ _ _ (fun q => e (by injection q))]
      exact h.isSome j hj
set_option maxRecDepth 100000 in
theorem PageAt.set_other {w : World} {b : Nat} {p : List UInt8} (h : PageAt w b p) (b' i : Nat) (v : Value) (hb : b ≠ b') : PageAt (w.setCell ⟨b', i, none⟩ v) b p where
  len := h.len
  range := fun j u hu => by
    rw [World.cell?_setCell_other _ _ _ _ (fun q => hb (by injection q with q; exact q.symm))]; exact h.range j u hu
  free := fun j hj => by
    rw [World.cell?_setCell_other _ _ _ _ (fun q => hb (by injection q with q; exact q.symm)), World.frozen?_setCell]; exact h.free j hj
set_option maxRecDepth 100000 in
theorem PageAt.put {w : World} {b : Nat} {p : List UInt8} (h : PageAt w b p) (q : List UInt8) (hq : q.length = 64) : PageAt (w.setCells b 0 (byteVals q)) b q where
  len := hq
  range := World.rangeAt_setCells_same _ _ _ _ (by rw [byteVals_length, hq]; exact h.free)
  free := World.there_setCells h.free _ _ _
set_option maxRecDepth 100000 in
theorem PageAt.put_other {w : World} {b : Nat} {p : List UInt8} (h : PageAt w b p) (b' o : Nat) (vs : List Value) (hb : b ≠ b') : PageAt (w.setCells b' o vs) b p where
  len := h.len
  range := World.rangeAt_setCells_apart h.range _ _ _ (Or.inl hb)
  free := World.there_setCells h.free _ _ _
set_option maxRecDepth 100000 in
theorem below_setCells {B : Nat} {a : World} (b : Nat) (hb : B ≤ b) : ∀ (vs : List Value) (o : Nat) (w : World), Below B a w → Below B a (w.setCells b o vs)
  | [], _, _, h => h
  | v :: r, o, w, h => by
    rw [World.setCells]
    exact below_setCells b hb r (o + 1) _ (h.setCell (by exact hb) v)
set_option maxRecDepth 100000 in
theorem heap_setCells (b : Nat) : ∀ (vs : List Value) (o : Nat) (w : World), (w.setCells b o vs).heap.size = w.heap.size
  | [], _, _ => rfl
  | v :: r, o, w => by
    rw [World.setCells, heap_setCells b r (o + 1)]; simp

set_option maxRecDepth 100000 in
/-- a page that is handed back: it lies in a block of its own -/
theorem results_page (fn : Func) (s : Nat) (hf : fn.results = #[.cell s 67]) {w : World} {b : Nat} {q : List UInt8} (tmps : Array Value) (h : PageAt w b q) (ht : tmps.getD s undef = .pointer (some ⟨b, 0, none⟩)) :
    (results fn tmps).run Try.prog w = .ok (pageV q) w := by
  have hl := run_loadVar_mid (P := Try.prog) w b 0 67 (byteVals q) _ h.range Try.underlying67 rfl (by rw [page_info, byteVals_length, h.len])
  unfold results
  rw [hf]
  simp only [Array.mapM_eq_mapM_toList, List.mapM_cons, List.mapM_nil, ht, asAddr, Sem.run_bind, Sem.run_pure, Result.andThen_ok, hl, Sem.run_map]
  rfl
set_option maxRecDepth 100000 in
/-- a whole page is read -/
theorem wpList_load_page {ops : Array Oper} {rest : List Oper} {op : Oper} {a : Act} {Q : Exit → Act → World → Prop} {w : World} {b : Nat} {p : List UInt8} (hp : PageAt w b p) (hgd : op.guard = none) (x : Operand) (ho : op.op = .load 67 x)
    (hx : a.eval x = .pointer (some ⟨b, 0, none⟩)) (h : wpList Try.prog ops Q rest (a.put op.dst (pageV p)) w) : wpList Try.prog ops Q (op :: rest) a w :=
  wpList_load_mid hgd 67 x ho b 0 hx (byteVals p) _ hp.range Try.underlying67 rfl (by rw [page_info, byteVals_length, hp.len]) h
set_option maxRecDepth 100000 in
/-- the same behind a guard that says yes -/
theorem wpList_load_guarded {ops : Array Oper} {rest : List Oper} {op : Oper} {a : Act} {Q : Exit → Act → World → Prop} {w : World} {b : Nat} {p : List UInt8} (hp : PageAt w b p) (x : Operand) (ho : op.op = .load 67 x)
    (hx : a.eval x = .pointer (some ⟨b, 0, none⟩)) (hw : Region.wanted op (yielded ops a.tmps) = true) (h : wpList Try.prog ops Q rest (a.put op.dst (pageV p)) w) : wpList Try.prog ops Q (op :: rest) a w :=
  BigFrame.wpList_want hw fun _ hK => wp_load_mid 67 x ho b 0 hx (byteVals p) _ hp.range Try.underlying67 rfl (by rw [page_info, byteVals_length, hp.len]) (hK _ _ h)
set_option maxRecDepth 100000 in
/-- the same, as a rule for the walk -/
theorem PageAt.loads {w : World} {b : Nat} {p : List UInt8} (h : PageAt w b p) : (loadVar 67 ⟨b, 0, none⟩).run Try.prog w = .ok (pageV p) w :=
  run_loadVar_mid (P := Try.prog) w b 0 67 (byteVals p) _ h.range Try.underlying67 rfl (by rw [page_info, byteVals_length, h.len])
set_option maxRecDepth 100000 in
theorem PageAt.loadsAt {w : World} {b : Nat} {p : List UInt8} (h : PageAt w b p) : (Instr.loadAt 67 (.pointer (some ⟨b, 0, none⟩))).run Try.prog w = .ok (pageV p) w :=
  run_loadAt_mid (P := Try.prog) w b 0 67 (byteVals p) _ h.range Try.underlying67 rfl (by rw [page_info, byteVals_length, h.len])
set_option maxRecDepth 100000 in
/-- a page is stored into a new variable -/
theorem wpList_store_new {ops : Array Oper} {rest : List Oper} {op : Oper} {a : Act} {Q : Exit → Act → World → Prop} {w : World} {Z : Array Value} {t : TypeId} {p : List UInt8} (hgd : op.guard = none) (x y : Operand) (ho : op.op = .store 67 x y)
    (hx : a.eval x = .pointer (some ⟨w.heap.size, 0, none⟩)) (hy : a.eval y = pageV p) (hZ : Z.size = 64) (hp : p.length = 64)
    (h : ∀ W2, PageAt W2 w.heap.size p → Below w.heap.size w W2 → W2.heap.size = w.heap.size + 1 → wpList Try.prog ops Q rest (a.put op.dst undef) W2) :
    wpList Try.prog ops Q (op :: rest) a (w.alloc (.cells Z t)) := by
  have hlen : (byteVals p).toArray.size = 64 := by rw [List.size_toArray, byteVals_length, hp]
  have ht : (w.alloc (.cells Z t)).there w.heap.size 0 64 := there_new w Z t _ (by omega)
  refine wpList_store_mid hgd 67 x y ho w.heap.size 0 (byteVals p).toArray hx hy (by rw [hlen]; exact ht) (by rw [page_info, hlen]) (all_oneCell_toArray (byteVals_one p)) (h _ ?_ ?_ ?_)
  · exact ⟨hp, World.rangeAt_setCells_same _ _ _ _ (by rw [List.toList_toArray, byteVals_length, hp]; exact ht), World.there_setCells ht _ _ _⟩
  · exact below_setCells _ (Nat.le_refl _) _ _ _ ((Below.refl _ _).alloc (Nat.le_refl _) _)
  · rw [heap_setCells]; simp
set_option maxRecDepth 100000 in
/-- a whole page is stored -/
theorem wpList_store_page {ops : Array Oper} {rest : List Oper} {op : Oper} {a : Act} {Q : Exit → Act → World → Prop} {w : World} {b : Nat} {q p : List UInt8} (hq : PageAt w b q) (hp : p.length = 64) (hgd : op.guard = none) (x y : Operand) (ho : op.op = .store 67 x y)
    (hx : a.eval x = .pointer (some ⟨b, 0, none⟩)) (hy : a.eval y = pageV p) (h : wpList Try.prog ops Q rest (a.put op.dst undef) (w.setCells b 0 (byteVals p))) : wpList Try.prog ops Q (op :: rest) a w :=
  wpList_store_mid hgd 67 x y ho b 0 (byteVals p).toArray hx hy (by rw [List.size_toArray, byteVals_length, hp]; exact hq.free) (by rw [page_info, List.size_toArray, byteVals_length, hp]) (all_oneCell_toArray (byteVals_one p)) (by simpa using h)

set_option maxRecDepth 100000 in
theorem info8 : ∃ i, Try.prog.info? 5 = some i := by
  cases h : Try.prog.info? 5 with
  | none => have e : (Try.prog.info? 5).isSome = true := by kernel_rfl
            rw [h] at e; cases e
  | some i => exact ⟨i, rfl⟩
set_option maxRecDepth 100000 in
/-- a page is sliced -/
theorem arrP : Try.prog.arrayLen 67 = 64 := by kernel_rfl
set_option maxRecDepth 100000 in
theorem elemP : Try.prog.elem 67 = 5 := by kernel_rfl
set_option maxRecDepth 100000 in
theorem run_size8 (w : World) : (sizeOf 5).run Try.prog w = .ok 1 w := by
  obtain ⟨i, hi⟩ := info8
  rw [run_sizeOf w hi, cells8]
set_option maxRecDepth 100000 in
theorem underP : Try.prog.underlying 67 = some (.array (Try.prog.arrayLen 67) (Try.prog.elem 67)) := by rw [arrP, elemP]; exact Try.underlying67
set_option maxRecDepth 100000 in
theorem run_slice_page (w : World) (b a n : Nat) (h1 : 1 ≤ n) (h : a + n ≤ 64) :
    (Instr.sliceAt 67 (.pointer (some ⟨b, 0, none⟩)) (some (.int .i64 (a : Int))) (some (.int .i64 ((a : Int) + (n : Int)))) none).run Try.prog w = .ok (.slice (some ⟨b, a, none⟩) n (64 - a)) w := by
  rw [run_sliceAt_array_lh w _ _ underP .i64 .i64 (a : Int) ((a : Int) + (n : Int)) (by omega) (by omega) (by rw [arrP]; omega), elemP, run_size8, arrP, Result.andThen_ok]
  unfold slicedAt
  have e1 : (a : Int).toNat = a := Int.toNat_natCast a
  have e2 : ((a : Int) + (n : Int)).toNat - a = n := by omega
  rw [e1, e2, if_neg (by omega), Nat.mul_one, Addr.add_mid, Nat.zero_add]
set_option maxRecDepth 100000 in
theorem run_slice_page_from (w : World) (b a : Nat) (h : a < 64) :
    (Instr.sliceAt 67 (.pointer (some ⟨b, 0, none⟩)) (some (.int .i64 (a : Int))) none none).run Try.prog w = .ok (.slice (some ⟨b, a, none⟩) (64 - a) (64 - a)) w := by
  rw [run_sliceAt_array_l w _ _ underP .i64 (a : Int) (by omega) (by rw [arrP]; omega), elemP, run_size8, arrP, Result.andThen_ok]
  unfold slicedAt
  have e1 : (a : Int).toNat = a := Int.toNat_natCast a
  rw [e1, if_neg (by omega), Nat.mul_one, Addr.add_mid, Nat.zero_add]
set_option maxRecDepth 100000 in
theorem run_slice_page_all (w : World) (b : Nat) :
    (Instr.sliceAt 67 (.pointer (some ⟨b, 0, none⟩)) none none none).run Try.prog w = .ok (.slice (some ⟨b, 0, none⟩) 64 64) w := by
  rw [run_sliceAt_array_all w _ _ underP, elemP, run_size8, arrP, Result.andThen_ok]
  unfold slicedAt
  rw [if_neg (by omega), Nat.zero_mul, Addr.add_mid]

open Dk (zeros zeros_length)
def zeroCells : Array Value := (byteVals zeros).toArray
set_option maxRecDepth 100000 in
theorem pageAt_zeros (w : World) (t : TypeId) : PageAt (w.alloc (.cells zeroCells t)) w.heap.size zeros := pageAt_new w zeros t zeros_length
set_option maxRecDepth 100000 in
theorem zeroCells_def : zeroCells = #[.int .u8 0, .int .u8 0, .int .u8 0, .int .u8 0, .int .u8 0, .int .u8 0, .int .u8 0, .int .u8 0, .int .u8 0, .int .u8 0, .int .u8 0, .int .u8 0, .int .u8 0, .int .u8 0, .int .u8 0, .int .u8 0,
    .int .u8 0, .int .u8 0, .int .u8 0, .int .u8 0, .int .u8 0, .int .u8 0, .int .u8 0, .int .u8 0, .int .u8 0, .int .u8 0, .int .u8 0, .int .u8 0, .int .u8 0, .int .u8 0, .int .u8 0, .int .u8 0,
    .int .u8 0, .int .u8 0, .int .u8 0, .int .u8 0, .int .u8 0, .int .u8 0, .int .u8 0, .int .u8 0, .int .u8 0, .int .u8 0, .int .u8 0, .int .u8 0, .int .u8 0, .int .u8 0, .int .u8 0, .int .u8 0,
    .int .u8 0, .int .u8 0, .int .u8 0, .int .u8 0, .int .u8 0, .int .u8 0, .int .u8 0, .int .u8 0, .int .u8 0, .int .u8 0, .int .u8 0, .int .u8 0, .int .u8 0, .int .u8 0, .int .u8 0, .int .u8 0] := rfl

/-! ### pages held against each other -/
set_option maxRecDepth 100000 in
theorem run_part8 (w : World) (p : List UInt8) (i : Nat) (h : i < p.length) : (part 5 (byteVals p).toArray i).run Try.prog w = .ok (.int .u8 (p[i].toNat : Int)) w := by
  have e : ((byteVals p).toArray)[i]? = some (.int .u8 (p[i].toNat : Int)) := by rw [List.getElem?_toArray]; exact byteVals_at p i h
  have ha : (isAgg 5).run Try.prog w = .ok false w := by
    unfold isAgg
    rw [Sem.run_bind, run_underlying Try.underlying5 w]; rfl
  unfold part
  rw [Sem.run_bind, ha]
  simp only [Result.andThen_ok, e]
  rfl
set_option maxRecDepth 100000 in
theorem run_eqBytes (w : World) (p q : List UInt8) (hl : p.length = q.length) (d : Nat) : ∀ (n i : Nat), i + n = p.length →
    (Op.eqItems (d + 1) 5 1 (byteVals p).toArray (byteVals q).toArray (List.range' i n)).run Try.prog w = .ok (decide (p.drop i = q.drop i)) w
  | 0, i, h => by
    rw [List.range'_zero, Op.eqItems, List.drop_of_length_le (by omega), List.drop_of_length_le (by omega)]; rfl
  | n + 1, i, h => by
    have hp : i < p.length := by omega
    have hq : i < q.length := by omega
    have e1 := run_part8 w p i hp
    have e2 := run_part8 w q i hq
    have e3 := run_equalIn_int (P := Try.prog) w d 5 .u8 .u8 (p[i].toNat : Int) (q[i].toNat : Int) Try.underlying5
    have ih := run_eqBytes w p q hl d n (i + 1) (by omega)
    rw [List.range'_succ, Op.eqItems, Nat.mul_one]
    simp only [Sem.run_bind, e1, e2, e3, Result.andThen_ok]
    have dp : p.drop i = p[i] :: p.drop (i + 1) := List.drop_eq_getElem_cons hp
    have dq : q.drop i = q[i] :: q.drop (i + 1) := List.drop_eq_getElem_cons hq
    by_cases c : p[i] = q[i]
    · have c1 : ((p[i].toNat : Int) == (q[i].toNat : Int)) = true := by rw [c]; exact beq_self_eq_true _
      rw [c1]
      simp only [Bool.not_true, Bool.false_eq_true, if_false]
      rw [ih]
      congr 1
      rw [dp, dq, decide_eq_decide, c, List.cons.injEq]
      exact ⟨fun h => ⟨rfl, h⟩, fun h => h.2⟩
    · have c1 : ((p[i].toNat : Int) == (q[i].toNat : Int)) = false := by
        rw [beq_eq_false_iff_ne]
        intro e
        exact c (UInt8.toNat_inj.1 (by omega))
      rw [c1]
      simp only [Bool.not_false, if_true]
      rw [Sem.run_pure]
      congr 1
      rw [dp, dq]
      symm
      rw [decide_eq_false_iff_not]
      intro e
      exact c (by injection e)
set_option maxRecDepth 100000 in
theorem run_eqPages (w : World) (p q : List UInt8) (hp : p.length = 64) (hq : q.length = 64) : (Op.equalIn 10000 67 (pageV p) (pageV q)).run Try.prog w = .ok (decide (p = q)) w := by
  obtain ⟨i, hi⟩ := info8
  unfold pageV
  rw [run_equalIn_array w 9999 _ _ Try.underlying67 hi, cells8, List.range_eq_range']
  have := run_eqBytes w p q (hp.trans hq.symm) 9998 64 0 (by omega)
  simpa using this
set_option maxRecDepth 100000 in
theorem run_eql_page (w : World) (p q : List UInt8) (hp : p.length = 64) (hq : q.length = 64) : (binOp .eql 67 (pageV p) (pageV q)).run Try.prog w = .ok (.bool (decide (p = q))) w := by
  have h := run_eqPages w p q hp hq
  unfold pageV at h ⊢
  rw [run_eql_struct, h]; rfl
set_option maxRecDepth 100000 in
theorem run_neq_page (w : World) (p q : List UInt8) (hp : p.length = 64) (hq : q.length = 64) : (binOp .neq 67 (pageV p) (pageV q)).run Try.prog w = .ok (.bool (!decide (p = q))) w := by
  have h := run_eqPages w p q hp hq
  unfold pageV at h ⊢
  rw [run_neq_struct, h]; rfl
end Go.Proofs.Yteobdjgodljjmaa.Pq
