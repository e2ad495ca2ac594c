/-
  Plain mathematics of slots: what is wrong with a name, the sixteen bytes of an entry, the entry that sixteen bytes are. Nothing of the program is in it.
-/
import Derived.Test.YtejedkdlehgnpaaPmath
namespace Go.Proofs.Ytejedkdlehgnpaa.Nm
open Go.Proofs.Ytejedkdlehgnpaa.Pg

/-- is a byte among those that no name has? -/
def bad (c : UInt8) : Bool := c == 0 || c == 47
def badB (s : List UInt8) : Bool := s.any bad
/-- what is wrong with a name -/
def chk (s : List UInt8) : Int := if s.length = 0 then 2 else if 13 < s.length then 36 else if s = [46] ∨ s = [46, 46] ∨ badB s = true then 22 else 0
def okB (s : List UInt8) : Bool := decide (chk s = 0)
def rightB (n : Int) (s : List UInt8) : Bool := decide (1 ≤ n ∧ n ≤ 65535 ∧ chk s = 0)
def zeroB (n : Int) (s : List UInt8) : Bool := decide (n = 0 ∧ s = [])
def standB (n : Int) (s : List UInt8) : Bool := zeroB n s || rightB n s
theorem chk_len {s : List UInt8} (h : chk s = 0) : 1 ≤ s.length ∧ s.length ≤ 13 := by
  unfold chk at h
  split at h
  · omega
  · split at h
    · omega
    · omega
theorem right_yes {n : Int} {s : List UInt8} (h : rightB n s = true) : 1 ≤ n ∧ n ≤ 65535 ∧ chk s = 0 := of_decide_eq_true h
theorem zero_yes {n : Int} {s : List UInt8} (h : zeroB n s = true) : n = 0 ∧ s = [] := of_decide_eq_true h
theorem stand_yes {n : Int} {s : List UInt8} (h : standB n s = true) : (n = 0 ∧ s = []) ∨ (1 ≤ n ∧ n ≤ 65535 ∧ chk s = 0) := by
  unfold standB at h
  rw [Bool.or_eq_true] at h
  exact h.imp zero_yes right_yes
theorem stand_bd {n : Int} {s : List UInt8} (h : standB n s = true) : 0 ≤ n ∧ n ≤ 65535 ∧ s.length ≤ 13 := by
  rcases stand_yes h with ⟨rfl, rfl⟩ | ⟨h1, h2, h3⟩
  · exact ⟨by omega, by omega, by simp⟩
  · exact ⟨by omega, h2, (chk_len h3).2⟩

/-! ### the sixteen bytes -/
def zs (k : Nat) : List UInt8 := List.replicate k 0
theorem zs_length (k : Nat) : (zs k).length = k := List.length_replicate
def slot (n : Int) (s : List UInt8) : List UInt8 := byteAt 1 n :: byteAt 0 n :: byteAt 0 s.length :: (s ++ zs (13 - s.length))
theorem slot_length (n : Int) {s : List UInt8} (h : s.length ≤ 13) : (slot n s).length = 16 := by
  unfold slot
  simp [zs_length]
  omega
theorem slot_zero : slot 0 [] = zs 16 := by decide
/-- the sixteen bytes of a slot -/
def at_ (p : List UInt8) (i : Nat) : List UInt8 := (p.drop (16 * i)).take 16
theorem at_length {p : List UInt8} (hp : p.length = 64) {i : Nat} (hi : i < 4) : (at_ p i).length = 16 := by
  unfold at_
  simp
  omega
/-- sixteen bytes laid into a slot -/
def lay (p : List UInt8) (i : Nat) (b : List UInt8) : List UInt8 := over p (16 * i) b
theorem lay_length {p b : List UInt8} (hp : p.length = 64) {i : Nat} (hi : i < 4) (hb : b.length = 16) : (lay p i b).length = 64 := by
  unfold lay
  rw [over_length _ _ _ (by omega), hp]
theorem at_lay {p b : List UInt8} (hp : p.length = 64) {i : Nat} (hi : i < 4) (hb : b.length = 16) : at_ (lay p i b) i = b := by
  unfold at_ lay
  have := over_back p (16 * i) b (by omega)
  rw [hb] at this
  exact this
theorem at_get (p : List UInt8) (i j : Nat) : (at_ p i)[j]? = if j < 16 then p[16 * i + j]? else none := by
  unfold at_
  rw [List.getElem?_take]
  split
  · rw [List.getElem?_drop]
  · rfl
theorem at_other {p b : List UInt8} (hp : p.length = 64) {i k : Nat} (hi : i < 4) (hk : k ≠ i) (hb : b.length = 16) : at_ (lay p i b) k = at_ p k := by
  apply List.ext_getElem?
  intro j
  rw [at_get, at_get]
  by_cases h : j < 16
  · rw [if_pos h, if_pos h]
    unfold lay
    rw [over_at _ _ _ _ (by omega)]
    by_cases h1 : 16 * k + j < 16 * i
    · rw [if_pos h1]
    · rw [if_neg h1, if_neg (by omega)]
  · rw [if_neg h, if_neg h]
theorem lay_at {p : List UInt8} (hp : p.length = 64) {i : Nat} (hi : i < 4) : lay p i (at_ p i) = p := by
  apply List.ext_getElem?
  intro j
  unfold lay
  rw [over_at _ _ _ _ (by rw [at_length hp hi]; omega), at_length hp hi]
  split
  · rfl
  · split
    · rw [at_get, if_pos (by omega)]
      congr 1
      omega
    · rfl
theorem lay_eq {p b : List UInt8} (hp : p.length = 64) {i : Nat} (hi : i < 4) (hb : b.length = 16) : lay p i b = p ↔ b = at_ p i := by
  constructor
  · intro h
    have := at_lay (b := b) hp hi hb
    rw [h] at this
    exact this.symm
  · intro h
    rw [h]
    exact lay_at hp hi

/-- what is laid over what was laid over -/
theorem over_over (p : List UInt8) (a : Nat) (t : List UInt8) (k : Nat) (s : List UInt8) (h1 : k + s.length ≤ t.length) (h2 : a + t.length ≤ p.length) : over (over p a t) (a + k) s = over p a (over t k s) := by
  apply List.ext_getElem?
  intro j
  rw [over_at _ _ _ _ (by rw [over_length _ _ _ h2]; omega), over_at _ _ _ _ h2, over_at p a _ _ (by rw [over_length _ _ _ h1]; exact h2), over_length _ _ _ h1, over_at _ _ _ _ h1]
  by_cases c1 : j < a
  · rw [if_pos (by omega), if_pos c1, if_pos c1]
  · rw [if_neg c1, if_neg c1]
    by_cases c2 : j < a + t.length
    · rw [if_pos c2, if_pos c2]
      by_cases c3 : j < a + k
      · rw [if_pos c3, if_pos (by omega)]
      · rw [if_neg c3, if_neg (show ¬ j - a < k by omega)]
        by_cases c4 : j < a + k + s.length
        · rw [if_pos c4, if_pos (show j - a < k + s.length by omega)]
          congr 1
          omega
        · rw [if_neg c4, if_neg (show ¬ j - a < k + s.length by omega)]
    · rw [if_neg c2, if_neg c2, if_neg (by omega), if_neg (by omega)]
/-- what the program lays, in four steps -/
def put1 (p : List UInt8) (i : Nat) : List UInt8 := over p (16 * i) (zs 16)
def put2 (p : List UInt8) (i : Nat) (n : Int) : List UInt8 := setN (put1 p i) (16 * i : Nat) 2 n
def put3 (p : List UInt8) (i : Nat) (n : Int) (k : Nat) : List UInt8 := setN (put2 p i n) ((16 * i : Nat) + 2) 1 k
def put4 (p : List UInt8) (i : Nat) (n : Int) (s : List UInt8) : List UInt8 := setTextN (put3 p i n s.length) ((16 * i : Nat) + 3) s
theorem put1_length {p : List UInt8} (hp : p.length = 64) {i : Nat} (hi : i < 4) : (put1 p i).length = 64 := by
  unfold put1
  rw [over_length _ _ _ (by rw [zs_length]; omega), hp]
theorem put2_length {p : List UInt8} (hp : p.length = 64) {i : Nat} (hi : i < 4) (n : Int) : (put2 p i n).length = 64 := setN_length _ _ _ _ (put1_length hp hi)
theorem put3_length {p : List UInt8} (hp : p.length = 64) {i : Nat} (hi : i < 4) (n : Int) (k : Nat) : (put3 p i n k).length = 64 := setN_length _ _ _ _ (put2_length hp hi n)
theorem put4_length {p : List UInt8} (hp : p.length = 64) {i : Nat} (hi : i < 4) (n : Int) (s : List UInt8) : (put4 p i n s).length = 64 := setTextN_length _ _ _ (put3_length hp hi n _)
theorem over_two (n : Int) : over (zs 16) 0 (bytesN 2 n) = byteAt 1 n :: byteAt 0 n :: zs 14 := rfl
theorem over_three (x y c : UInt8) : over (x :: y :: zs 14) 2 [c] = x :: y :: c :: zs 13 := rfl
theorem over_four (x y c : UInt8) (s : List UInt8) (h : s.length ≤ 13) : over (x :: y :: c :: zs 13) 3 s = x :: y :: c :: (s ++ zs (13 - s.length)) := by
  unfold over
  rw [Nat.add_comm 3 s.length, List.drop_succ_cons, List.drop_succ_cons, List.drop_succ_cons]
  show [x, y, c] ++ (s ++ List.drop s.length (zs 13)) = _
  unfold zs
  rw [List.drop_replicate]
  rfl
theorem put4_eq {p : List UInt8} (hp : p.length = 64) {i : Nat} (hi : i < 4) (n : Int) {s : List UInt8} (hs : s.length ≤ 13) : put4 p i n s = lay p i (slot n s) := by
  have h2 : put2 p i n = over p (16 * i) (byteAt 1 n :: byteAt 0 n :: zs 14) := by
    unfold put2 put1 setN
    rw [if_pos (num_mk (by omega) (by omega) (by omega) (by omega)), Int.toNat_natCast]
    have := over_over p (16 * i) (zs 16) 0 (bytesN 2 n) (by rw [bytesN_length, zs_length]; omega) (by rw [zs_length]; omega)
    rw [over_two, Nat.add_zero] at this
    exact this
  have h3 : put3 p i n s.length = over p (16 * i) (byteAt 1 n :: byteAt 0 n :: byteAt 0 s.length :: zs 13) := by
    unfold put3 setN
    rw [if_pos (num_mk (by omega) (by omega) (by omega) (by omega)), h2]
    have := over_over p (16 * i) (byteAt 1 n :: byteAt 0 n :: zs 14) 2 [byteAt 0 s.length] (by simp [zs_length]) (by simp [zs_length]; omega)
    rw [over_three] at this
    exact this
  unfold put4 setTextN
  rw [if_pos (ins_mk (by omega) (by omega) (by omega)), h3]
  have := over_over p (16 * i) (byteAt 1 n :: byteAt 0 n :: byteAt 0 s.length :: zs 13) 3 s (by simp [zs_length]; omega) (by simp [zs_length]; omega)
  rw [over_four _ _ _ _ hs] at this
  exact this

/-! ### the entry that sixteen bytes are -/
def ent (b : List UInt8) : Option (Int × List UInt8) :=
  if b = zs 16 then some (0, [])
  else if 13 < (b.getD 2 0).toNat then none
  else if rightB (numOf (b.take 2)) ((b.drop 3).take (b.getD 2 0).toNat) = true ∧ slot (numOf (b.take 2)) ((b.drop 3).take (b.getD 2 0).toNat) = b then some (numOf (b.take 2), (b.drop 3).take (b.getD 2 0).toNat)
  else none
def entN (o : Option (Int × List UInt8)) : Int := (o.getD (0, [])).1
def entS (o : Option (Int × List UInt8)) : List UInt8 := (o.getD (0, [])).2
theorem byteAt0_small (k : Nat) (h : k < 256) : (byteAt 0 (k : Int)).toNat = k := by
  have := byteAt_nat 0 (k : Int)
  rw [Int.pow_zero, Int.ediv_one] at this
  omega
theorem numOf_two (n : Int) (h0 : 0 ≤ n) (h1 : n ≤ 65535) : numOf [byteAt 1 n, byteAt 0 n] = n := by
  have := numOf_bytesN 2 n
  rw [show bytesN 2 n = [byteAt 1 n, byteAt 0 n] from rfl] at this
  rw [this]
  omega
theorem slot_two (n : Int) (s : List UInt8) : (slot n s).getD 2 0 = byteAt 0 s.length := rfl
theorem slot_name (n : Int) {s : List UInt8} (h : s.length ≤ 13) : ((slot n s).drop 3).take (byteAt 0 (s.length : Int)).toNat = s := by
  rw [byteAt0_small _ (by omega)]
  show (s ++ zs (13 - s.length)).take s.length = s
  exact List.take_left' rfl
theorem slot_num (n : Int) (s : List UInt8) : (slot n s).take 2 = [byteAt 1 n, byteAt 0 n] := rfl
/-- what is put is the entry that stands there -/
theorem ent_slot {n : Int} {s : List UInt8} (h : standB n s = true) : ent (slot n s) = some (n, s) := by
  rcases stand_yes h with ⟨rfl, rfl⟩ | ⟨h1, h2, h3⟩
  · rw [slot_zero]; rfl
  · have hl := chk_len h3
    have hne : slot n s ≠ zs 16 := by
      intro e
      have := slot_num n s
      rw [e] at this
      have h0 := numOf_two n (by omega) h2
      rw [← this] at h0
      have : numOf ((zs 16).take 2) = 0 := by decide
      omega
    unfold ent
    rw [if_neg hne, slot_two, slot_name n hl.2, slot_num, numOf_two n (by omega) h2, byteAt0_small _ (by omega), if_neg (by omega), if_pos ⟨decide_eq_true ⟨h1, h2, h3⟩, rfl⟩]
theorem ent_stand {b : List UInt8} {n : Int} {s : List UInt8} (h : ent b = some (n, s)) : standB n s = true ∧ slot n s = b := by
  unfold ent at h
  split at h
  · injection h with h
    injection h with h1 h2
    subst h1 h2
    exact ⟨rfl, by rw [slot_zero]; exact (by assumption : b = _).symm⟩
  · split at h
    · cases h
    · split at h
      · rename_i h'
        injection h with h
        injection h with h1 h2
        subst h1 h2
        exact ⟨by unfold standB; rw [h'.1, Bool.or_true], h'.2⟩
      · cases h
/-- what the program reads: three numbers, and whether they would be written so -/
def num (p : List UInt8) (i : Nat) : Int := getN p (16 * i : Nat) 2
def len (p : List UInt8) (i : Nat) : Int := getN p ((16 * i : Nat) + 2) 1
def name (p : List UInt8) (i : Nat) : List UInt8 := textN p ((16 * i : Nat) + 3) (len p i)
theorem sixteen {b : List UInt8} (h : b.length = 16) : ∃ x y c t, b = x :: y :: c :: t ∧ t.length = 13 := by
  match b, h with
  | x :: y :: c :: t, h => exact ⟨x, y, c, t, rfl, by simpa using h⟩
theorem num_at {p : List UInt8} {i : Nat} (hi : i < 4) : num p i = numOf ((at_ p i).take 2) := by
  unfold num getN at_
  rw [if_pos (num_mk (by omega) (by omega) (by omega) (by omega)), Int.toNat_natCast, List.take_take]
  rfl
theorem one_at {p : List UInt8} (hp : p.length = 64) {k : Nat} (hk : k < 64) : numOf ((p.drop k).take 1) = ((p.getD k 0).toNat : Int) := by
  rw [List.drop_eq_getElem_cons (by omega), List.take_succ_cons, List.take_zero, List.getD_eq_getElem?_getD, List.getElem?_eq_getElem (by omega)]
  unfold numOf
  simp
theorem len_at {p : List UInt8} (hp : p.length = 64) {i : Nat} (hi : i < 4) : len p i = (((at_ p i).getD 2 0).toNat : Int) := by
  unfold len getN
  rw [if_pos (num_mk (by omega) (by omega) (by omega) (by omega))]
  have := one_at hp (k := 16 * i + 2) (by omega)
  rw [show (((16 * i : Nat) : Int) + 2).toNat = 16 * i + 2 by omega, show (1 : Int).toNat = 1 from rfl, this, List.getD_eq_getElem?_getD, List.getD_eq_getElem?_getD, at_get, if_pos (by omega)]
theorem len_bd {p : List UInt8} (hp : p.length = 64) {i : Nat} (hi : i < 4) : 0 ≤ len p i ∧ len p i ≤ 255 := by
  rw [len_at hp hi]
  have := ((at_ p i).getD 2 0).toNat_lt
  omega
theorem num_bd {p : List UInt8} {i : Nat} (hi : i < 4) : 0 ≤ num p i ∧ num p i ≤ 65535 := by
  rw [num_at hi]
  have h := numOf_bd ((at_ p i).take 2)
  have hl : ((at_ p i).take 2).length ≤ 2 := by simp; omega
  have : ((at_ p i).take 2).length = 0 ∨ ((at_ p i).take 2).length = 1 ∨ ((at_ p i).take 2).length = 2 := by omega
  rcases this with e | e | e <;> (rw [e] at h; omega)
theorem name_near {p : List UInt8} (hp : p.length = 64) {i : Nat} (hi : i < 4) (h : len p i ≤ 13) : name p i = ((at_ p i).drop 3).take ((at_ p i).getD 2 0).toNat := by
  have hl := len_at hp hi
  unfold name textN
  rw [if_pos (ins_mk (by omega) (by omega) (by omega)), hl]
  apply List.ext_getElem?
  intro j
  rw [List.getElem?_take, List.getElem?_take, Int.toNat_natCast, List.getElem?_drop, List.getElem?_drop, at_get]
  split
  · rw [if_pos (by omega), show (((16 * i : Nat) : Int) + 3).toNat + j = 16 * i + (3 + j) by omega]
  · rfl
theorem name_far {p : List UInt8} (hp : p.length = 64) {i : Nat} (hi : i < 4) (h : 13 < len p i) : name p i = [] ∨ 13 < (name p i).length := by
  have hb := len_bd hp hi
  unfold name textN
  split
  · have := ins_yes (by assumption)
    right
    simp [hp]
    omega
  · left; rfl
theorem name_length {p : List UInt8} (hp : p.length = 64) (i : Nat) : (name p i).length ≤ 64 := by
  unfold name textN
  split
  · simp; omega
  · simp
/-- the program's answer is the document's -/
theorem ent_code {p : List UInt8} (hp : p.length = 64) {i : Nat} (hi : i < 4) :
    ent (at_ p i) = if standB (num p i) (name p i) = true ∧ put4 p i (num p i) (name p i) = p then some (num p i, name p i) else none := by
  have hal := at_length hp hi
  by_cases hs : standB (num p i) (name p i) = true
  · have hb := stand_bd hs
    have hk : put4 p i (num p i) (name p i) = p ↔ slot (num p i) (name p i) = at_ p i := by
      rw [put4_eq hp hi _ hb.2.2, lay_eq hp hi (slot_length _ hb.2.2)]
    by_cases he : slot (num p i) (name p i) = at_ p i
    · rw [if_pos ⟨hs, hk.2 he⟩, ← he]
      exact ent_slot hs
    · rw [if_neg (fun h => he (hk.1 h.2))]
      cases hn : ent (at_ p i) with
      | none => rfl
      | some x =>
        obtain ⟨n, s⟩ := x
        obtain ⟨h1, h2⟩ := ent_stand hn
        exfalso
        apply he
        have hb' := stand_bd h1
        have hl := len_at hp hi
        rw [← h2, slot_two, byteAt0_small _ (by omega)] at hl
        rw [name_near hp hi (by omega), num_at hi, ← h2, slot_two, slot_name n hb'.2.2, slot_num, numOf_two n hb'.1 hb'.2.1]
  · rw [if_neg (fun h => hs h.1)]
    cases hn : ent (at_ p i) with
    | none => rfl
    | some x =>
      obtain ⟨n, s⟩ := x
      obtain ⟨h1, h2⟩ := ent_stand hn
      exfalso
      apply hs
      have hb' := stand_bd h1
      have hl := len_at hp hi
      rw [← h2, slot_two, byteAt0_small _ (by omega)] at hl
      rw [name_near hp hi (by omega), num_at hi, ← h2, slot_two, slot_name n hb'.2.2, slot_num, numOf_two n hb'.1 hb'.2.1]
      exact h1
end Go.Proofs.Ytejedkdlehgnpaa.Nm
