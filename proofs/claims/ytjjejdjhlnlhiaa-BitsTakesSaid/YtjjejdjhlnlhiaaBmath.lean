/-
  Plain mathematics of bits in bytes: which are 1, what setting one makes of a byte, those between two places. Nothing of the program is in it.
-/
namespace Go.Proofs.Ytjjejdjhlnlhiaa.Bt

/-- bit i of the bytes: false, if there is none -/
def bit (bs : List UInt8) (i : Nat) : Bool := (bs.getD (i / 8) 0).toNat.testBit (i % 8)
theorem bit_far (bs : List UInt8) (i : Nat) (h : 8 * bs.length ≤ i) : bit bs i = false := by
  unfold bit
  rw [List.getD_eq_getElem?_getD, List.getElem?_eq_none (by omega)]
  exact Nat.zero_testBit _
/-- the same by a number of any sign -/
def getB (bs : List UInt8) (i : Int) : Bool := if 0 ≤ i then bit bs i.toNat else false
theorem getB_nat (bs : List UInt8) (i : Nat) : getB bs (i : Int) = bit bs i := by
  unfold getB; rw [if_pos (by omega), Int.toNat_natCast]
theorem getB_no (bs : List UInt8) (n : Nat) (hl : bs.length = 64 * n) (i : Int) (h : ¬ (0 ≤ i ∧ i < (n : Int) * 512)) : getB bs i = false := by
  unfold getB
  split
  · exact bit_far bs _ (by omega)
  · rfl

theorem pow8 (k : Nat) (h : k < 8) : 2 ^ k < 256 := by
  have := Nat.pow_lt_pow_right (a := 2) (by omega) h
  simpa using this
/-- 2 to the power of k, under a name that no rule takes apart -/
def pw (k : Nat) : Nat := 2 ^ k
theorem pw_def (k : Nat) : pw k = 2 ^ k := rfl
theorem pw_lt (k : Nat) (h : k < 8) : pw k < 256 := pow8 k h
/-- a byte's bit is 1 just if this is not 0 -/
theorem and_bit (x k : Nat) : (x &&& 2 ^ k = 0) ↔ x.testBit k = false := by
  constructor
  · intro h
    have e : (x &&& 2 ^ k).testBit k = false := by rw [h]; exact Nat.zero_testBit _
    rw [Nat.testBit_and, Nat.testBit_two_pow] at e
    simpa using e
  · intro h
    refine Nat.eq_of_testBit_eq fun j => ?_
    rw [Nat.testBit_and, Nat.testBit_two_pow, Nat.zero_testBit]
    by_cases e : k = j
    · rw [← e, h]; rfl
    · simp [e]
/-- halved k times -/
theorem half_bit (x k : Nat) : (x / 2 ^ k % 2 = 1) ↔ x.testBit k = true := by
  rw [Nat.testBit_eq_decide_div_mod_eq]
  simp

/-- a byte with one bit set -/
def byteSet (c : UInt8) (k : Nat) (on : Bool) : UInt8 := UInt8.ofNat (if on = true then c.toNat ||| 2 ^ k else c.toNat &&& (255 - 2 ^ k))
theorem byteSet_on (c : UInt8) (k : Nat) (h : k < 8) : ((byteSet c k true).toNat) = c.toNat ||| 2 ^ k := by
  unfold byteSet
  rw [if_pos rfl, UInt8.toNat_ofNat']
  have := c.toNat_lt
  exact Nat.mod_eq_of_lt (Nat.or_lt_two_pow (n := 8) (by omega) (pow8 k h))
theorem byteSet_off (c : UInt8) (k : Nat) : ((byteSet c k false).toNat) = c.toNat &&& (255 - 2 ^ k) := by
  unfold byteSet
  rw [if_neg (by simp), UInt8.toNat_ofNat']
  exact Nat.mod_eq_of_lt (Nat.and_lt_two_pow (n := 8) _ (by have := Nat.two_pow_pos k; omega))
theorem mask_bit (k j : Nat) (h : k < 8) : (255 - 2 ^ k).testBit j = (decide (j < 8) && !decide (k = j)) := by
  have e : 255 - 2 ^ k = 2 ^ 8 - (2 ^ k + 1) := by omega
  rw [e, Nat.testBit_two_pow_sub_succ (pow8 k h), Nat.testBit_two_pow]
theorem small_bit (c : UInt8) (j : Nat) (h : 8 ≤ j) : c.toNat.testBit j = false := by
  refine Nat.testBit_lt_two_pow (Nat.lt_of_lt_of_le c.toNat_lt ?_)
  exact Nat.pow_le_pow_right (by omega) h
theorem byteSet_bit (c : UInt8) (k j : Nat) (on : Bool) (h : k < 8) : (byteSet c k on).toNat.testBit j = if k = j then on else c.toNat.testBit j := by
  cases on with
  | true =>
    rw [byteSet_on c k h, Nat.testBit_or, Nat.testBit_two_pow]
    by_cases e : k = j
    · simp [e]
    · simp [e]
  | false =>
    rw [byteSet_off, Nat.testBit_and, mask_bit k j h]
    by_cases e : k = j
    · simp [e]
    · by_cases hj : j < 8
      · simp [e, hj]
      · rw [small_bit c j (by omega)]; simp [e]
theorem byte_ext (a b : UInt8) (h : ∀ j, a.toNat.testBit j = b.toNat.testBit j) : a = b := UInt8.toNat_inj.1 (Nat.eq_of_testBit_eq h)
/-- a bit that is so already: the byte stays -/
theorem byteSet_same (c : UInt8) (k : Nat) (on : Bool) (h : k < 8) (hb : c.toNat.testBit k = on) : byteSet c k on = c := by
  refine byte_ext _ _ fun j => ?_
  rw [byteSet_bit c k j on h]
  split
  · rename_i e; rw [← e, hb]
  · rfl
/-- one that isn't: it is turned -/
theorem byteSet_turn (c : UInt8) (k : Nat) (on : Bool) (h : k < 8) (hb : c.toNat.testBit k ≠ on) : (byteSet c k on).toNat = c.toNat ^^^ 2 ^ k := by
  refine Nat.eq_of_testBit_eq fun j => ?_
  rw [byteSet_bit c k j on h, Nat.testBit_xor, Nat.testBit_two_pow]
  by_cases e : k = j
  · subst e
    cases on <;> cases hc : c.toNat.testBit k <;> simp_all
  · simp [e]

/-- the bytes with one bit set; as they are, if there is none -/
def setBit (bs : List UInt8) (i : Nat) (on : Bool) : List UInt8 := bs.set (i / 8) (byteSet (bs.getD (i / 8) 0) (i % 8) on)
theorem setBit_length (bs : List UInt8) (i : Nat) (on : Bool) : (setBit bs i on).length = bs.length := List.length_set
def setB (bs : List UInt8) (i : Int) (on : Bool) : List UInt8 := if 0 ≤ i ∧ i < (8 * bs.length : Nat) then setBit bs i.toNat on else bs
theorem setB_length (bs : List UInt8) (i : Int) (on : Bool) : (setB bs i on).length = bs.length := by
  unfold setB; split
  · exact setBit_length ..
  · rfl
theorem setB_nat (bs : List UInt8) (i : Nat) (on : Bool) (h : i < 8 * bs.length) : setB bs (i : Int) on = setBit bs i on := by
  unfold setB; rw [if_pos ⟨by omega, by omega⟩, Int.toNat_natCast]
theorem setB_no (bs : List UInt8) (i : Int) (on : Bool) (h : ¬ (0 ≤ i ∧ i < (8 * bs.length : Nat))) : setB bs i on = bs := by
  unfold setB; rw [if_neg h]
theorem bit_set (bs : List UInt8) (i j : Nat) (on : Bool) (h : i < 8 * bs.length) : bit (setBit bs i on) j = if i = j then on else bit bs j := by
  unfold bit setBit
  have hi : i / 8 < bs.length := by omega
  by_cases e : i / 8 = j / 8
  · rw [← e, List.getD_eq_getElem?_getD, List.getElem?_set, if_pos rfl, if_pos hi, Option.getD_some, byteSet_bit _ _ _ _ (Nat.mod_lt _ (by omega))]
    by_cases e2 : i = j
    · rw [if_pos (by rw [e2]), if_pos e2]
    · rw [if_neg (by omega), if_neg e2]
  · rw [List.getD_eq_getElem?_getD, List.getElem?_set, if_neg e, if_neg (fun q => e (by rw [q])), ← List.getD_eq_getElem?_getD]
theorem set_same (bs : List UInt8) (i : Nat) (on : Bool) (h : i < 8 * bs.length) (hb : bit bs i = on) : setBit bs i on = bs := by
  unfold setBit
  rw [byteSet_same _ _ _ (Nat.mod_lt _ (by omega)) hb, List.getD_eq_getElem?_getD, List.getElem?_eq_getElem (by omega)]
  exact List.set_getElem_self _

/-! ### those between two places -/
/-- is this bit meant? -/
def among (bs : List UInt8) (on : Bool) (a b : Int) (i : Nat) : Bool := decide (a ≤ (i : Int)) && decide ((i : Int) < b) && (bit bs i == on)
/-- those below k, rising -/
def upto (bs : List UInt8) (on : Bool) (a b : Int) (k : Nat) : List Nat := (List.range k).filter (among bs on a b)
theorem upto_zero (bs : List UInt8) (on : Bool) (a b : Int) : upto bs on a b 0 = [] := rfl
theorem upto_yes (bs : List UInt8) (on : Bool) (a b : Int) (k : Nat) (h : among bs on a b k = true) : upto bs on a b (k + 1) = upto bs on a b k ++ [k] := by
  unfold upto
  rw [List.range_succ, List.filter_append]
  simp [List.filter_cons, h]
theorem upto_no (bs : List UInt8) (on : Bool) (a b : Int) (k : Nat) (h : among bs on a b k = false) : upto bs on a b (k + 1) = upto bs on a b k := by
  unfold upto
  rw [List.range_succ, List.filter_append]
  simp [List.filter_cons, h]
theorem upto_low (bs : List UInt8) (on : Bool) (a b : Int) (k : Nat) (h : ∀ i, i < k → among bs on a b i = false) : upto bs on a b k = [] := by
  unfold upto
  rw [List.filter_eq_nil_iff]
  intro i hi
  rw [h i (List.mem_range.1 hi)]
  simp
theorem upto_more (bs : List UInt8) (on : Bool) (a b : Int) (k : Nat) : ∀ d, (∀ i, k ≤ i → i < k + d → among bs on a b i = false) → upto bs on a b (k + d) = upto bs on a b k
  | 0, _ => rfl
  | d + 1, h => by
    rw [← Nat.add_assoc, upto_no _ _ _ _ _ (h (k + d) (by omega) (by omega)), upto_more bs on a b k d (fun i h1 h2 => h i h1 (by omega))]
theorem upto_length (bs : List UInt8) (on : Bool) (a b : Int) (k : Nat) : (upto bs on a b k).length ≤ k := by
  have := List.length_filter_le (among bs on a b) (List.range k)
  rwa [List.length_range] at this
theorem upto_grows (bs : List UInt8) (on : Bool) (a b : Int) (k : Nat) : ∀ d, upto bs on a b k <+: upto bs on a b (k + d)
  | 0 => List.prefix_rfl
  | d + 1 => by
    refine (upto_grows bs on a b k d).trans ?_
    rw [← Nat.add_assoc]
    cases h : among bs on a b (k + d) with
    | true => rw [upto_yes _ _ _ _ _ h]; exact List.prefix_append _ _
    | false => rw [upto_no _ _ _ _ _ h]; exact List.prefix_rfl
theorem among_low (bs : List UInt8) (on : Bool) (a b : Int) (i : Nat) (h : (i : Int) < a) : among bs on a b i = false := by
  unfold among; rw [decide_eq_false (show ¬ a ≤ (i : Int) by omega)]; rfl
theorem among_high (bs : List UInt8) (on : Bool) (a b : Int) (i : Nat) (h : b ≤ (i : Int)) : among bs on a b i = false := by
  unfold among; rw [decide_eq_false (show ¬ (i : Int) < b by omega), Bool.and_false]; rfl
theorem among_in (bs : List UInt8) (on : Bool) (a b : Int) (i : Nat) (h1 : a ≤ (i : Int)) (h2 : (i : Int) < b) : among bs on a b i = (bit bs i == on) := by
  unfold among; rw [decide_eq_true h1, decide_eq_true h2]; rfl
/-- all of them; N: how many bits there are -/
def all (bs : List UInt8) (on : Bool) (a b : Int) : List Nat := upto bs on a b (8 * bs.length)
/-- from where on, and ahead of what, the program looks -/
def lo (a : Int) : Nat := (max a 0).toNat
def hi (bs : List UInt8) (b : Int) : Int := min b (8 * bs.length : Nat)
theorem upto_start (bs : List UInt8) (on : Bool) (a b : Int) : upto bs on a b (lo a) = [] := by
  refine upto_low _ _ _ _ _ fun i hi => among_low _ _ _ _ _ ?_
  unfold lo at hi
  omega
theorem upto_end (bs : List UInt8) (on : Bool) (a b : Int) (k : Nat) (h1 : lo a ≤ k) (h2 : hi bs b ≤ (k : Int)) (h3 : k ≤ 8 * bs.length ∨ k = lo a) : upto bs on a b k = all bs on a b := by
  unfold all
  rcases Nat.le_total k (8 * bs.length) with h | h
  · obtain ⟨d, hd⟩ := Nat.exists_eq_add_of_le h
    rw [hd, upto_more]
    intro i e1 e2
    refine among_high _ _ _ _ _ ?_
    unfold hi at h2
    omega
  · rcases h3 with h3 | h3
    · rw [Nat.le_antisymm h3 h]
    · rw [h3, upto_start]
      symm
      refine upto_low _ _ _ _ _ fun i hi => among_low _ _ _ _ _ ?_
      rw [h3] at h
      unfold lo at h
      omega
theorem upto_step (bs : List UInt8) (on : Bool) (a b : Int) (k : Nat) (h1 : lo a ≤ k) (h2 : (k : Int) < hi bs b) : among bs on a b k = (bit bs k == on) := by
  refine among_in _ _ _ _ _ ?_ ?_
  · unfold lo at h1; omega
  · unfold hi at h2; omega
theorem upto_pre (bs : List UInt8) (on : Bool) (a b : Int) (k : Nat) (h : k ≤ 8 * bs.length) : upto bs on a b k <+: all bs on a b := by
  obtain ⟨d, hd⟩ := Nat.exists_eq_add_of_le h
  unfold all
  rw [hd]
  exact upto_grows ..
theorem all_length (bs : List UInt8) (on : Bool) (a b : Int) : (all bs on a b).length ≤ 8 * bs.length := upto_length ..
/-- the first, or -1 -/
def first (bs : List UInt8) (a b : Int) : Int := match all bs false a b with
  | [] => -1
  | i :: _ => (i : Int)
theorem first_none (bs : List UInt8) (a b : Int) (h : all bs false a b = []) : first bs a b = -1 := by unfold first; rw [h]
theorem first_some (bs : List UInt8) (a b : Int) (i : Nat) (h : [i] <+: all bs false a b) : first bs a b = (i : Int) := by
  obtain ⟨r, hr⟩ := h
  unfold first
  rw [← hr]; rfl
theorem all_none (bs : List UInt8) (on : Bool) (a b : Int) : all bs on a b = [] ↔ ∀ i, i < 8 * bs.length → among bs on a b i = false := by
  unfold all upto
  rw [List.filter_eq_nil_iff]
  constructor
  · intro h i hi
    have := h i (List.mem_range.2 hi)
    simpa using this
  · intro h i hi
    rw [h i (List.mem_range.1 hi)]
    simp
end Go.Proofs.Ytjjejdjhlnlhiaa.Bt
