/-
  Plain mathematics of pages: bytes at a place, numbers of bytes, the highest first. Nothing of the program is in it.
-/
namespace Go.Proofs.Ythccgfnoolbiiaa.Pq.Pg

/-- do so many bytes from one on stand in a page? -/
def insB (a n : Int) : Bool := decide (0 ≤ a ∧ 0 ≤ n ∧ a ≤ 64 - n)
/-- is it a number's place? -/
def numB (a n : Int) : Bool := decide (1 ≤ n ∧ n ≤ 4 ∧ 0 ≤ a ∧ a ≤ 64 - n)
theorem ins_yes {a n : Int} (h : insB a n = true) : 0 ≤ a ∧ 0 ≤ n ∧ a ≤ 64 - n := of_decide_eq_true h
theorem ins_no {a n : Int} (h : insB a n = false) : a < 0 ∨ n < 0 ∨ 64 - n < a := by have := of_decide_eq_false h; omega
theorem num_yes {a n : Int} (h : numB a n = true) : 1 ≤ n ∧ n ≤ 4 ∧ 0 ≤ a ∧ a ≤ 64 - n := of_decide_eq_true h
theorem num_no {a n : Int} (h : numB a n = false) : n < 1 ∨ 4 < n ∨ a < 0 ∨ 64 - n < a := by have := of_decide_eq_false h; omega
theorem ins_mk {a n : Int} (h1 : 0 ≤ a) (h2 : 0 ≤ n) (h3 : a ≤ 64 - n) : insB a n = true := decide_eq_true ⟨h1, h2, h3⟩
theorem num_mk {a n : Int} (h1 : 1 ≤ n) (h2 : n ≤ 4) (h3 : 0 ≤ a) (h4 : a ≤ 64 - n) : numB a n = true := decide_eq_true ⟨h1, h2, h3, h4⟩

/-- the number of bytes, the highest first -/
def numOf (l : List UInt8) : Int := l.foldl (fun n c => n * 256 + (c.toNat : Int)) 0
theorem numOf_snoc (l : List UInt8) (c : UInt8) : numOf (l ++ [c]) = numOf l * 256 + (c.toNat : Int) := by
  unfold numOf; rw [List.foldl_append]; rfl
theorem numOf_nil : numOf [] = 0 := rfl
theorem fold_from (l : List UInt8) (x : Int) : l.foldl (fun n c => n * 256 + (c.toNat : Int)) x = x * 256 ^ l.length + numOf l := by
  unfold numOf
  induction l generalizing x with
  | nil => simp
  | cons c l ih =>
    rw [List.foldl_cons, List.foldl_cons, ih (x * 256 + (c.toNat : Int)), ih (0 * 256 + (c.toNat : Int)), List.length_cons, Int.pow_succ, Int.add_mul, Int.add_mul]
    have e : x * 256 * 256 ^ l.length = x * (256 ^ l.length * 256) := by rw [Int.mul_assoc, Int.mul_comm 256 (256 ^ l.length)]
    omega
theorem numOf_cons (c : UInt8) (l : List UInt8) : numOf (c :: l) = (c.toNat : Int) * 256 ^ l.length + numOf l := by
  unfold numOf; rw [List.foldl_cons, fold_from, Int.zero_mul, Int.zero_add]; rfl
theorem numOf_bd (l : List UInt8) : 0 ≤ numOf l ∧ numOf l < 256 ^ l.length := by
  induction l with
  | nil => simp [numOf_nil]
  | cons c l ih =>
    obtain ⟨h0, h1⟩ := ih
    have hc := c.toNat_lt
    rw [numOf_cons, List.length_cons, Int.pow_succ]
    generalize (256 : Int) ^ l.length = m at h1 ⊢
    have hm : 0 ≤ m := by omega
    have k1 : (c.toNat : Int) * m ≤ 255 * m := Int.mul_le_mul_of_nonneg_right (by omega) hm
    have k0 : 0 ≤ (c.toNat : Int) * m := Int.mul_nonneg (by omega) hm
    omega
theorem numOf_small (l : List UInt8) (h : l.length ≤ 3) : 0 ≤ numOf l ∧ numOf l < 16777216 := by
  obtain ⟨h0, h1⟩ := numOf_bd l
  refine ⟨h0, ?_⟩
  have : l.length = 0 ∨ l.length = 1 ∨ l.length = 2 ∨ l.length = 3 := by omega
  rcases this with e | e | e | e <;> (rw [e] at h1; omega)
theorem numOf_four (l : List UInt8) (h : l.length ≤ 4) : 0 ≤ numOf l ∧ numOf l < 4294967296 := by
  obtain ⟨h0, h1⟩ := numOf_bd l
  refine ⟨h0, ?_⟩
  have : l.length = 0 ∨ l.length = 1 ∨ l.length = 2 ∨ l.length = 3 ∨ l.length = 4 := by omega
  rcases this with e | e | e | e | e <;> (rw [e] at h1; omega)

/-- byte number k of a number, from the lowest on -/
def byteAt (k : Nat) (n : Int) : UInt8 := UInt8.ofNat (n / 256 ^ k % 256).toNat
theorem byteAt_nat (k : Nat) (n : Int) : ((byteAt k n).toNat : Int) = n / 256 ^ k % 256 := by
  unfold byteAt
  have h0 := Int.emod_nonneg (n / 256 ^ k) (show (256 : Int) ≠ 0 by omega)
  have h1 := Int.emod_lt_of_pos (n / 256 ^ k) (show (0 : Int) < 256 by omega)
  rw [UInt8.toNat_ofNat']
  omega
/-- the lowest k bytes of a number, the highest first -/
def bytesN : Nat → Int → List UInt8
  | 0, _ => []
  | k + 1, n => byteAt k n :: bytesN k n
theorem bytesN_length (k : Nat) (n : Int) : (bytesN k n).length = k := by
  induction k with
  | zero => rfl
  | succ k ih => rw [bytesN, List.length_cons, ih]
theorem emod_step (n m : Int) (hm : 0 < m) : n % (m * 256) = n % m + m * (n / m % 256) := by
  have h1 := Int.mul_ediv_add_emod n m
  have h2 := Int.mul_ediv_add_emod (n / m) 256
  have r0 := Int.emod_nonneg n (show m ≠ 0 by omega)
  have r1 := Int.emod_lt_of_pos n hm
  have q0 := Int.emod_nonneg (n / m) (show (256 : Int) ≠ 0 by omega)
  have q1 := Int.emod_lt_of_pos (n / m) (show (0 : Int) < 256 by omega)
  have e : n = (n % m + m * (n / m % 256)) + (m * 256) * (n / m / 256) := by
    conv => lhs; rw [← h1, ← h2]
    rw [Int.mul_add, Int.mul_assoc]
    omega
  have b1 : m * (n / m % 256) ≤ m * 255 := Int.mul_le_mul_of_nonneg_left (by omega) (by omega)
  have b0 : 0 ≤ m * (n / m % 256) := Int.mul_nonneg (by omega) q0
  conv => lhs; rw [e]
  rw [Int.add_mul_emod_self_left, Int.emod_eq_of_lt (by omega) (by omega)]
theorem numOf_bytesN (k : Nat) (n : Int) : numOf (bytesN k n) = n % 256 ^ k := by
  induction k with
  | zero => simp [bytesN, numOf_nil, Int.emod_one]
  | succ k ih =>
    rw [bytesN, numOf_cons, ih, byteAt_nat, bytesN_length, Int.pow_succ]
    rw [emod_step n (256 ^ k) (Int.pow_pos (by omega))]
    have : n / 256 ^ k % 256 * 256 ^ k = 256 ^ k * (n / 256 ^ k % 256) := Int.mul_comm _ _
    omega

/-- other bytes from a place on -/
def over (p : List UInt8) (a : Nat) (s : List UInt8) : List UInt8 := p.take a ++ (s ++ p.drop (a + s.length))
theorem over_nil (p : List UInt8) (a : Nat) : over p a [] = p := by unfold over; simp
theorem over_length (p : List UInt8) (a : Nat) (s : List UInt8) (h : a + s.length ≤ p.length) : (over p a s).length = p.length := by
  unfold over; simp; omega
theorem over_at (p : List UInt8) (a : Nat) (s : List UInt8) (j : Nat) (h : a + s.length ≤ p.length) :
    (over p a s)[j]? = if j < a then p[j]? else if j < a + s.length then s[j - a]? else p[j]? := by
  unfold over
  have hl : (p.take a).length = a := by simp; omega
  by_cases h1 : j < a
  · rw [if_pos h1, List.getElem?_append_left (by omega), List.getElem?_take, if_pos h1]
  · rw [if_neg h1, List.getElem?_append_right (by omega), hl]
    by_cases h2 : j < a + s.length
    · rw [if_pos h2, List.getElem?_append_left (by omega)]
    · rw [if_neg h2, List.getElem?_append_right (by omega), List.getElem?_drop]
      congr 1; omega
theorem over_set_before (p : List UInt8) (a : Nat) (s : List UInt8) (c : UInt8) (h : a + 1 + s.length ≤ p.length) : (over p (a + 1) s).set a c = over p a (c :: s) := by
  apply List.ext_getElem?
  intro j
  rw [List.getElem?_set, over_length _ _ _ h, over_at _ _ _ _ h, over_at _ _ _ _ (by rw [List.length_cons]; omega), List.length_cons]
  by_cases h1 : a = j
  · subst h1
    rw [if_pos rfl, if_pos (by omega), if_neg (by omega), if_pos (by omega), Nat.sub_self]; rfl
  · rw [if_neg h1]
    by_cases h2 : j < a
    · rw [if_pos (by omega), if_pos h2]
    · rw [if_neg (by omega), if_neg h2]
      by_cases h3 : j < a + 1 + s.length
      · rw [if_pos h3, if_pos (by omega)]
        obtain ⟨i, rfl⟩ : ∃ i, j = a + 1 + i := ⟨j - (a + 1), by omega⟩
        rw [show a + 1 + i - (a + 1) = i by omega, show a + 1 + i - a = i + 1 by omega, List.getElem?_cons_succ]
      · rw [if_neg h3, if_neg (by omega)]
theorem over_set_behind (p : List UInt8) (a : Nat) (s : List UInt8) (c : UInt8) (h : a + s.length + 1 ≤ p.length) : (over p a s).set (a + s.length) c = over p a (s ++ [c]) := by
  apply List.ext_getElem?
  intro j
  rw [List.getElem?_set, over_length _ _ _ (by omega), over_at _ _ _ _ (by omega), over_at _ _ _ _ (by rw [List.length_append, List.length_cons, List.length_nil]; omega), List.length_append, List.length_cons, List.length_nil]
  by_cases h1 : a + s.length = j
  · subst h1
    rw [if_pos rfl, if_pos (by omega), if_neg (by omega), if_pos (by omega), show a + s.length - a = s.length by omega, List.getElem?_append_right (by omega), Nat.sub_self]; rfl
  · rw [if_neg h1]
    by_cases h2 : j < a
    · rw [if_pos h2, if_pos h2]
    · rw [if_neg h2, if_neg h2]
      by_cases h3 : j < a + s.length
      · rw [if_pos h3, if_pos (by omega), List.getElem?_append_left (by omega)]
      · rw [if_neg h3, if_neg (by omega)]
/-- what was laid over is read there -/
theorem over_back (p : List UInt8) (a : Nat) (s : List UInt8) (h : a + s.length ≤ p.length) : ((over p a s).drop a).take s.length = s := by
  unfold over
  rw [List.drop_append_of_le_length (by simp; omega), List.drop_take_self, List.nil_append, List.take_left']
  rfl

def getN (p : List UInt8) (a n : Int) : Int := if numB a n = true then numOf ((p.drop a.toNat).take n.toNat) else 0
def setN (p : List UInt8) (a n v : Int) : List UInt8 := if numB a n = true then over p a.toNat (bytesN n.toNat v) else p
def textN (p : List UInt8) (a n : Int) : List UInt8 := if insB a n = true then (p.drop a.toNat).take n.toNat else []
def setTextN (p : List UInt8) (a : Int) (s : List UInt8) : List UInt8 := if insB a s.length = true then over p a.toNat s else p
theorem setN_length (p : List UInt8) (a n v : Int) (h : p.length = 64) : (setN p a n v).length = 64 := by
  unfold setN
  split
  · have := num_yes (by assumption)
    rw [over_length _ _ _ (by rw [bytesN_length]; omega), h]
  · exact h
theorem setTextN_length (p : List UInt8) (a : Int) (s : List UInt8) (h : p.length = 64) : (setTextN p a s).length = 64 := by
  unfold setTextN
  split
  · have := ins_yes (by assumption)
    rw [over_length _ _ _ (by omega), h]
  · exact h
end Go.Proofs.Ythccgfnoolbiiaa.Pq.Pg
