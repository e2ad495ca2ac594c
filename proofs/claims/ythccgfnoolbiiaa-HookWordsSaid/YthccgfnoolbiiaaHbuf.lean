/-
  Sixteen bytes in memory: a block of their own; what allocations, stores and what is made besides leave of them; slices of them.
-/
import Derived.Test.YthccgfnoolbiiaaAbase
import Derived.Test.YthccgfnoolbiiaaQPmath
import Derived.Test.YthccgfnoolbiiaaHmath
import Derived.Laws.IdiomStrings
import Derived.Laws.IdiomCopy
namespace Go.Proofs.Ythccgfnoolbiiaa
open Go.RowKit Go.Maps Pq
def byteVals (p : List UInt8) : List Value := p.map fun c => Value.int .u8 (c.toNat : Int)
set_option maxRecDepth 100000 in
theorem byteVals_length (p : List UInt8) : (byteVals p).length = p.length := by simp [byteVals]
set_option maxRecDepth 100000 in
theorem byteVals_one (p : List UInt8) : ∀ v ∈ byteVals p, v.oneCell' = true := by
  intro v hv
  obtain ⟨c, _, rfl⟩ := List.mem_map.1 hv
  rfl
set_option maxRecDepth 100000 in
theorem byteVals_at (p : List UInt8) (j : Nat) (h : j < p.length) : (byteVals p)[j]? = some (.int .u8 (p[j].toNat : Int)) := by
  unfold byteVals
  rw [List.getElem?_map, List.getElem?_eq_getElem h]; rfl
set_option maxRecDepth 100000 in
theorem byteVals_set (p : List UInt8) (i : Nat) (c : UInt8) : (byteVals p).set i (.int .u8 (c.toNat : Int)) = byteVals (p.set i c) := by
  unfold byteVals; rw [List.map_set]
set_option maxRecDepth 100000 in
theorem cells8 : Try.prog.cellsOf 5 = 1 := by kernel_rfl

/-- a page that lies in a block of its own, and may be written -/
structure BufAt (w : World) (b : Nat) (p : List UInt8) : Prop where
  len : p.length = 16
  range : w.rangeAt b 0 (byteVals p)
  free : w.there b 0 16

set_option maxRecDepth 100000 in
theorem BufAt.cell {w : World} {b : Nat} {p : List UInt8} (h : BufAt w b p) (j : Nat) (hj : j < 16) : w.cell? ⟨b, j, none⟩ = some (.int .u8 ((p.getD j 0).toNat : Int)) := by
  have hj' : j < p.length := by rw [h.len]; exact hj
  have := h.range j _ (byteVals_at p j hj')
  rw [Nat.zero_add] at this
  rw [this, List.getD_eq_getElem?_getD, List.getElem?_eq_getElem hj']; rfl
set_option maxRecDepth 100000 in
theorem BufAt.isSome {w : World} {b : Nat} {p : List UInt8} (h : BufAt w b p) (j : Nat) (hj : j < 16) : (w.cell? ⟨b, j, none⟩).isSome = true := by
  rw [h.cell j hj]; rfl
set_option maxRecDepth 100000 in
theorem BufAt.frozen {w : World} {b : Nat} {p : List UInt8} (h : BufAt w b p) (j : Nat) (hj : j < 16) : w.frozen? ⟨b, j, none⟩ = false := by
  have := (h.free j hj).2
  rwa [Nat.zero_add] at this
set_option maxRecDepth 100000 in
theorem BufAt.lt {w : World} {b : Nat} {p : List UInt8} (h : BufAt w b p) : b < w.heap.size :=
  World.block_lt_of_cell? w _ (h.cell 0 (by omega))
set_option maxRecDepth 100000 in
theorem bufAt_new (w : World) (p : List UInt8) (t : TypeId) (hp : p.length = 16) : BufAt (w.alloc (.cells (byteVals p).toArray t)) w.heap.size p where
  len := hp
  range := fun j v hv => by
    rw [Nat.zero_add, World.cell?_alloc_mark]
    simpa using hv
  free := there_new w _ t _ (by rw [List.size_toArray, byteVals_length]; omega)
set_option maxRecDepth 100000 in
theorem BufAt.alloc {w : World} {b : Nat} {p : List UInt8} (h : BufAt w b p) (o : Obj) : BufAt (w.alloc o) b p := ⟨h.len, World.rangeAt_alloc h.range o, World.there_alloc h.free o⟩
set_option maxRecDepth 100000 in
theorem BufAt.drew {w : World} {b : Nat} {p : List UInt8} (h : BufAt w b p) : BufAt w.drew b p := ⟨h.len, (World.rangeAt_drew ..).2 h.range, (World.there_drew ..).2 h.free⟩
set_option maxRecDepth 100000 in
theorem BufAt.below {n : Nat} {w w' : World} {b : Nat} {p : List UInt8} (h : BufAt w b p) (hb : Below n w w') (hn : b < n) : BufAt w' b p where
  len := h.len
  range := fun j v hv => (hb.cell (p := ⟨b, 0 + j, none⟩) hn).trans (h.range j v hv)
  free := fun j hj => by
    rw [hb.cell (p := ⟨b, 0 + j, none⟩) hn, hb.frozen (p := ⟨b, 0 + j, none⟩) hn]
    exact h.free j hj
set_option maxRecDepth 100000 in
theorem BufAt.set {w : World} {b : Nat} {p : List UInt8} (h : BufAt w b p) (i : Nat) (c : UInt8) (hi : i < 16) : BufAt (w.setCell ⟨b, i, none⟩ (.int .u8 (c.toNat : Int))) b (p.set i c) where
  len := by rw [List.length_set, h.len]
  range := fun j v hv => by
    rw [Nat.zero_add]
    rw [← byteVals_set, List.getElem?_set] at hv
    by_cases e : i = j
    · subst e
      rw [if_pos rfl, if_pos (by rw [byteVals_length, h.len]; exact hi)] at hv
      injection hv with hv
      rw [← hv]
      exact World.cell?_setCell_same' _ _ _ (h.isSome i hi)
    · rw [if_neg e] at hv
      rw [World.cell?_setCell_other _ _ _ _ (fun q => e (by injection q))]
      have := h.range j v hv
      rwa [Nat.zero_add] at this
  free := fun j hj => by
    rw [Nat.zero_add]
    refine ⟨?_, by rw [World.frozen?_setCell]; exact h.frozen j hj⟩
    by_cases e : i = j
    · subst e
      rw [World.cell?_setCell_same' _ _ _ (h.isSome i hi)]; rfl
    · rw [World.cell?_setCell_other _ _ _ _ (fun q => e (by injection q))]
      exact h.isSome j hj
set_option maxRecDepth 100000 in
theorem BufAt.put_other {w : World} {b : Nat} {p : List UInt8} (h : BufAt w b p) (b' o : Nat) (vs : List Value) (hb : b ≠ b') : BufAt (w.setCells b' o vs) b p where
  len := h.len
  range := World.rangeAt_setCells_apart h.range _ _ _ (Or.inl hb)
  free := World.there_setCells h.free _ _ _
set_option maxRecDepth 100000 in
theorem info8 : ∃ i, Try.prog.info? 5 = some i := by
  cases h : Try.prog.info? 5 with
  | none => have e : (Try.prog.info? 5).isSome = true := by kernel_rfl
            rw [h] at e; cases e
  | some i => exact ⟨i, rfl⟩
set_option maxRecDepth 100000 in
/-- a page is sliced -/
theorem arrP : Try.prog.arrayLen 37 = 16 := by kernel_rfl
set_option maxRecDepth 100000 in
theorem elemP : Try.prog.elem 37 = 5 := by kernel_rfl
set_option maxRecDepth 100000 in
theorem run_size8 (w : World) : (sizeOf 5).run Try.prog w = .ok 1 w := by
  obtain ⟨i, hi⟩ := info8
  rw [run_sizeOf w hi, cells8]
set_option maxRecDepth 100000 in
theorem underP : Try.prog.underlying 37 = some (.array (Try.prog.arrayLen 37) (Try.prog.elem 37)) := by rw [arrP, elemP]; exact Try.underlying37
set_option maxRecDepth 100000 in
theorem run_slice_buf (w : World) (b a n : Nat) (h1 : 1 ≤ n) (h : a + n ≤ 16) :
    (Instr.sliceAt 37 (.pointer (some ⟨b, 0, none⟩)) (some (.int .i64 (a : Int))) (some (.int .i64 ((a : Int) + (n : Int)))) none).run Try.prog w = .ok (.slice (some ⟨b, a, none⟩) n (16 - a)) w := by
  rw [run_sliceAt_array_lh w _ _ underP .i64 .i64 (a : Int) ((a : Int) + (n : Int)) (by omega) (by omega) (by rw [arrP]; omega), elemP, run_size8, arrP, Result.andThen_ok]
  unfold slicedAt
  have e1 : (a : Int).toNat = a := Int.toNat_natCast a
  have e2 : ((a : Int) + (n : Int)).toNat - a = n := by omega
  rw [e1, e2, if_neg (by omega), Nat.mul_one, Addr.add_mid, Nat.zero_add]
set_option maxRecDepth 100000 in
theorem run_slice_buf_from (w : World) (b a : Nat) (h : a < 16) :
    (Instr.sliceAt 37 (.pointer (some ⟨b, 0, none⟩)) (some (.int .i64 (a : Int))) none none).run Try.prog w = .ok (.slice (some ⟨b, a, none⟩) (16 - a) (16 - a)) w := by
  rw [run_sliceAt_array_l w _ _ underP .i64 (a : Int) (by omega) (by rw [arrP]; omega), elemP, run_size8, arrP, Result.andThen_ok]
  unfold slicedAt
  have e1 : (a : Int).toNat = a := Int.toNat_natCast a
  rw [e1, if_neg (by omega), Nat.mul_one, Addr.add_mid, Nat.zero_add]
set_option maxRecDepth 100000 in
theorem run_slice_buf_all (w : World) (b : Nat) :
    (Instr.sliceAt 37 (.pointer (some ⟨b, 0, none⟩)) none none none).run Try.prog w = .ok (.slice (some ⟨b, 0, none⟩) 16 16) w := by
  rw [run_sliceAt_array_all w _ _ underP, elemP, run_size8, arrP, Result.andThen_ok]
  unfold slicedAt
  rw [if_neg (by omega), Nat.zero_mul, Addr.add_mid]

/-- bytes as a text -/
def strOf (l : List UInt8) : ByteArray := ⟨l.toArray⟩
set_option maxRecDepth 100000 in
theorem strOf_size (l : List UInt8) : (strOf l).size = l.length := by simp [strOf, ByteArray.size]
set_option maxRecDepth 100000 in
theorem strOf_bytes (s : ByteArray) : strOf s.data.toList = s := by simp [strOf]

set_option maxRecDepth 100000 in
/-- bytes of a page as a text, wherever they stand -/
theorem run_text {w : World} {b : Nat} {p : List UInt8} (h : BufAt w b p) (a n : Nat) (hn : a + n ≤ 16) :
    ∃ S, (Instr.sliceAt 37 (.pointer (some ⟨b, 0, none⟩)) (some (.int .i64 (a : Int))) (some (.int .i64 ((a : Int) + (n : Int)))) none).run Try.prog w = .ok S w ∧
      (convert 36 9 S).run Try.prog w = .ok (.string (strOf ((p.drop a).take n))) w := by
  have hl : ((p.drop a).take n).length = n := by have := h.len; simp; omega
  have hs := run_sliceAt_array_lh (P := Try.prog) w 37 ⟨b, 0, none⟩ underP .i64 .i64 (a : Int) ((a : Int) + (n : Int)) (by omega) (by omega) (by rw [arrP]; omega)
  rw [elemP, run_size8, arrP, Result.andThen_ok] at hs
  unfold slicedAt at hs
  have e1 : (a : Int).toNat = a := Int.toNat_natCast a
  have e2 : ((a : Int) + (n : Int)).toNat - a = n := by omega
  rw [e1, e2] at hs
  refine ⟨_, hs, ?_⟩
  have := run_convert_bytes_back (P := Try.prog) w 36 9 5 (if 16 = a then ⟨b, 0, none⟩ else (⟨b, 0, none⟩ : Addr).add (a * 1)) (16 - a) ((p.drop a).take n) Try.underlying36 Try.underlying5 Try.underlying9 (fun j hj => by
    rw [if_neg (by omega), Addr.add_mid, Addr.add_mid, Nat.mul_one, Nat.zero_add, h.cell (a + j) (by omega), List.getElem_take, List.getElem_drop, List.getD_eq_getElem?_getD, List.getElem?_eq_getElem (by have := h.len; omega)]
    rfl)
  rw [hl] at this
  exact this

set_option maxRecDepth 100000 in
theorem BufAt.over {w : World} {b : Nat} {p : List UInt8} (h : BufAt w b p) (a : Nat) (s : List UInt8) (hs : a + s.length ≤ 16) : BufAt (w.setCells b a (byteVals s)) b (Pg.over p a s) where
  len := by rw [Pg.over_length _ _ _ (by rw [h.len]; exact hs), h.len]
  range := fun j v hv => by
    rw [Nat.zero_add]
    have hj : j < 16 := by
      have := (List.getElem?_eq_some_iff.1 hv).1
      rw [byteVals_length, Pg.over_length _ _ _ (by rw [h.len]; exact hs), h.len] at this
      exact this
    have hv' : (Pg.over p a s)[j]?.map (fun c => Value.int .u8 (c.toNat : Int)) = Option.some v := by rw [← hv]; unfold byteVals; rw [List.getElem?_map]
    rw [Pg.over_at _ _ _ _ (by rw [h.len]; exact hs)] at hv'
    by_cases h1 : a ≤ j ∧ j < a + s.length
    · rw [if_neg (by omega), if_pos h1.2] at hv'
      have hin := World.cell?_setCells_in b (byteVals s) a w (fun i hi => h.isSome (a + i) (by rw [byteVals_length] at hi; omega)) (j - a) (by rw [byteVals_length]; omega)
      rw [show a + (j - a) = j by omega] at hin
      rw [hin, ← hv', ← List.getElem?_eq_getElem]
      unfold byteVals
      rw [List.getElem?_map]
    · rw [World.cell?_setCells_out b (byteVals s) a w ⟨b, j, none⟩ (fun _ _ => by rw [byteVals_length]; show j < a ∨ a + s.length ≤ j; omega)]
      have hpj : p[j]?.map (fun c => Value.int .u8 (c.toNat : Int)) = Option.some v := by
        by_cases h2 : j < a
        · rw [if_pos h2] at hv'; exact hv'
        · rw [if_neg h2, if_neg (by omega)] at hv'; exact hv'
      have := h.range j v (by unfold byteVals; rw [List.getElem?_map]; exact hpj)
      rwa [Nat.zero_add] at this
  free := World.there_setCells h.free _ _ _

set_option maxRecDepth 100000 in
/-- a text is copied into a page, wherever it has room -/
theorem run_copy_text {w : World} {b : Nat} {p : List UInt8} (h : BufAt w b p) (a : Nat) (s : ByteArray) (hs : a + s.size ≤ 16) :
    ∃ S, (Instr.sliceAt 37 (.pointer (some ⟨b, 0, none⟩)) (some (.int .i64 (a : Int))) none none).run Try.prog w = .ok S w ∧
      (Builtin.copy_ #[36, 9] 3 #[S, .string s]).run Try.prog w = .ok (goInt s.size) (w.setCells b a (byteVals s.data.toList)) := by
  have hsl := run_sliceAt_array_l (P := Try.prog) w 37 ⟨b, 0, none⟩ underP .i64 (a : Int) (by omega) (by rw [arrP]; omega)
  rw [elemP, run_size8, arrP, Result.andThen_ok] at hsl
  unfold slicedAt at hsl
  have e1 : (a : Int).toNat = a := Int.toNat_natCast a
  rw [e1] at hsl
  refine ⟨_, hsl, ?_⟩
  have hmin : Nat.min s.size (16 - a) = s.size := Nat.min_eq_left (by omega)
  have hcells : (s.extract 0 s.size).data.map (fun b => Value.int .u8 (b.toNat : Int)) = (byteVals s.data.toList).toArray := by
    have : s.extract 0 s.size = s := by apply ByteArray.ext; simp
    rw [this]; unfold byteVals; rw [← Array.toList_map, Array.toArray_toList]
  have hst : (storeCells (if 16 = a then ⟨b, 0, none⟩ else (⟨b, 0, none⟩ : Addr).add (a * 1)) (byteVals s.data.toList)).run Try.prog w = .ok () (w.setCells b a (byteVals s.data.toList)) := by
    by_cases h16 : 16 = a
    · have hz : s.data.toList = [] := List.eq_nil_of_length_eq_zero (by have : s.size = s.data.toList.length := by simp
                                                                        omega)
      rw [hz]; rfl
    · rw [if_neg h16, Addr.add_mid, Nat.mul_one, Nat.zero_add]
      have hlen : (byteVals s.data.toList).length = s.size := by rw [byteVals_length]; simp
      exact run_storeCells_cells (P := Try.prog) b a (byteVals s.data.toList) 0 w (fun j hj => h.isSome (a + j) (by omega)) (fun j hj => h.frozen (a + j) (by omega)) (byteVals_one _)
  obtain ⟨i8, hi8⟩ := info8
  have hsz := run_size8 w
  unfold Builtin.copy_
  simp only [List.getElem?_toArray, List.getElem?_cons_zero, List.getElem?_cons_succ, Sem.run_bind, run_underlying Try.underlying36, Result.andThen_ok, Builtin.lenOf, Sem.run_pure, hmin, hsz, Builtin.firstCells, hcells, hst]


def zero16 : List UInt8 := List.replicate 16 0
theorem zero16_length : zero16.length = 16 := List.length_replicate
def zeroCells : Array Value := (byteVals zero16).toArray
theorem bufAt_zeros (w : World) (t : TypeId) : BufAt (w.alloc (.cells zeroCells t)) w.heap.size zero16 := bufAt_new w zero16 t zero16_length
theorem zeroCells_def : zeroCells = #[.int .u8 0, .int .u8 0, .int .u8 0, .int .u8 0, .int .u8 0, .int .u8 0, .int .u8 0, .int .u8 0, .int .u8 0, .int .u8 0, .int .u8 0, .int .u8 0, .int .u8 0, .int .u8 0, .int .u8 0, .int .u8 0] := rfl
end Go.Proofs.Ythccgfnoolbiiaa
