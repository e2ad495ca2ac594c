/-
  Plain mathematics of plans: which are right, the first data page, the super page and what is read from it. Nothing of the program is in it.
-/
import Derived.Test.YtchlhnpnenafnaaPmath
namespace Go.Proofs.Ytchlhnpnenafnaa.Pl

/-- the first data page behind so many inodes -/
def dataN (i : Int) : Int := 43 + (i + 1) / 2
/-- is it a plan? -/
def rightB (p i : Int) : Bool := decide (1 ≤ i ∧ i ≤ 128 ∧ p ≤ 512 ∧ dataN i < p)
theorem right_yes {p i : Int} (h : rightB p i = true) : 1 ≤ i ∧ i ≤ 128 ∧ p ≤ 512 ∧ dataN i < p := of_decide_eq_true h
theorem right_no {p i : Int} (h : rightB p i = false) : i < 1 ∨ 128 < i ∨ 512 < p ∨ p ≤ dataN i := by have := of_decide_eq_false h; omega
theorem right_mk {p i : Int} (h1 : 1 ≤ i) (h2 : i ≤ 128) (h3 : p ≤ 512) (h4 : dataN i < p) : rightB p i = true := decide_eq_true ⟨h1, h2, h3, h4⟩
theorem right_not {p i : Int} (h : i < 1 ∨ 128 < i ∨ 512 < p ∨ p ≤ dataN i) : rightB p i = false := by
  unfold rightB; rw [decide_eq_false_iff_not]; omega
theorem data_bd {i : Int} (h1 : 1 ≤ i) (h2 : i ≤ 128) : 44 ≤ dataN i ∧ dataN i ≤ 107 := by unfold dataN; omega

def markB : List UInt8 := [78, 82, 84, 88]
def zero64 : List UInt8 := List.replicate 64 0
/-- the super page -/
def superP (p i : Int) : List UInt8 := Pg.setN (Pg.setN (Pg.setTextN zero64 0 markB) 4 2 p) 6 2 i
theorem mark_length : (Pg.setTextN zero64 0 markB).length = 64 := Pg.setTextN_length _ _ _ (by simp [zero64])
theorem mid_length (p : Int) : (Pg.setN (Pg.setTextN zero64 0 markB) 4 2 p).length = 64 := Pg.setN_length _ _ _ _ mark_length
theorem super_length (p i : Int) : (superP p i).length = 64 := Pg.setN_length _ _ _ _ (mid_length p)
theorem super_bytes (p i : Int) : superP p i = markB ++ (Pg.bytesN 2 p ++ (Pg.bytesN 2 i ++ List.replicate 56 0)) := by rfl
theorem super_get (p i : Int) (h1 : 0 ≤ p) (h2 : p < 65536) (h3 : 0 ≤ i) (h4 : i < 65536) : Pg.getN (superP p i) 4 2 = p ∧ Pg.getN (superP p i) 6 2 = i := by
  have e1 : ((superP p i).drop 4).take 2 = Pg.bytesN 2 p := by rfl
  have e2 : ((superP p i).drop 6).take 2 = Pg.bytesN 2 i := by rfl
  have n1 : Pg.numB 4 2 = true := by decide
  have n2 : Pg.numB 6 2 = true := by decide
  unfold Pg.getN
  rw [if_pos n1, if_pos n2]
  have f1 : ((superP p i).drop (4 : Int).toNat).take (2 : Int).toNat = Pg.bytesN 2 p := e1
  have f2 : ((superP p i).drop (6 : Int).toNat).take (2 : Int).toNat = Pg.bytesN 2 i := e2
  rw [f1, f2, Pg.numOf_bytesN, Pg.numOf_bytesN]
  constructor
  · exact Int.emod_eq_of_lt h1 (by omega)
  · exact Int.emod_eq_of_lt h3 (by omega)
/-- two bytes of a page, as a number -/
theorem get_two (x : List UInt8) (hx : x.length = 64) (a : Nat) (ha : a ≤ 62) : Pg.getN x a 2 = ((x.getD a 0).toNat : Int) * 256 + ((x.getD (a + 1) 0).toNat : Int) := by
  unfold Pg.getN
  rw [if_pos (Pg.num_mk (by omega) (by omega) (by omega) (by omega))]
  have e : (x.drop (a : Int).toNat).take (2 : Int).toNat = [x.getD a 0, x.getD (a + 1) 0] := by
    rw [Int.toNat_natCast, show (2 : Int).toNat = 2 from rfl]
    rw [List.drop_eq_getElem_cons (show a < x.length by omega), List.drop_eq_getElem_cons (show a + 1 < x.length by omega)]
    rw [List.take_succ_cons, List.take_succ_cons, List.take_zero, List.getD_eq_getElem?_getD, List.getD_eq_getElem?_getD, List.getElem?_eq_getElem (show a < x.length by omega), List.getElem?_eq_getElem (show a + 1 < x.length by omega)]
    rfl
  rw [e]
  simp [Pg.numOf]
/-- is it a plan's super page, and of which -/
def readB (x : List UInt8) : Bool := rightB (Pg.getN x 4 2) (Pg.getN x 6 2) && decide (superP (Pg.getN x 4 2) (Pg.getN x 6 2) = x)
theorem read_super (p i : Int) (h : rightB p i = true) : readB (superP p i) = true ∧ Pg.getN (superP p i) 4 2 = p ∧ Pg.getN (superP p i) 6 2 = i := by
  obtain ⟨h1, h2, h3, h4⟩ := right_yes h
  have hd := data_bd h1 h2
  obtain ⟨e1, e2⟩ := super_get p i (by omega) (by omega) (by omega) (by omega)
  refine ⟨?_, e1, e2⟩
  unfold readB
  rw [e1, e2, h]
  simp
theorem get_bd (x : List UInt8) (a : Nat) (hx : x.length = 64) (ha : a ≤ 62) : 0 ≤ Pg.getN x a 2 ∧ Pg.getN x a 2 < 65536 := by
  rw [get_two x hx a ha]
  have := (x.getD a 0).toNat_lt
  have := (x.getD (a + 1) 0).toNat_lt
  omega
end Go.Proofs.Ytchlhnpnenafnaa.Pl
