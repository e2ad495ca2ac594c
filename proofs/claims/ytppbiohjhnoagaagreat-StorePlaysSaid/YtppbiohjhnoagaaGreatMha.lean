/-
  Plain mathematics of heads and their pages. Nothing of the program is in it.
-/
import Derived.Test.YtppbiohjhnoagaaGreatMpa
import Derived.Test.YtppbiohjhnoagaaGreatRows
import Derived.Orders
import Derived.WalkKit
import Derived.Deep.QuietTactic
import Derived.BigQuiet
namespace Go.Proofs.YtppbiohjhnoagaaGreat.Hd
open Go.Proofs.YtppbiohjhnoagaaGreat.Pg

/-- a head -/
structure Head where
  seq : Int
  live : Bool
  count : Int
  sum : Int
deriving DecidableEq

def zero : Head := ⟨0, false, 0, 0⟩
/-- is it right? -/
def rightB (h : Head) : Bool := decide (0 ≤ h.seq ∧ h.seq < 4294967296 ∧ (h.live = true → 1 ≤ h.count ∧ h.count ≤ 512) ∧ (h.live = false → h.count = 0 ∧ h.sum = 0))
theorem right_yes {h : Head} (hr : rightB h = true) : 0 ≤ h.seq ∧ h.seq < 4294967296 ∧ (h.live = true → 1 ≤ h.count ∧ h.count ≤ 512) ∧ (h.live = false → h.count = 0 ∧ h.sum = 0) := of_decide_eq_true hr

def flag (l : Bool) : UInt8 := if l = true then 1 else 0
/-- a head's page, part by part -/
def parts (a : List UInt8) (b : UInt8) (c d z e : List UInt8) : List UInt8 := a ++ (b :: (c ++ (d ++ (z ++ e))))
def nils : List UInt8 := List.replicate 49 0
def pageH (h : Head) : List UInt8 := parts (bytesN 4 h.seq) (flag h.live) (bytesN 2 h.count) (bytesN 4 h.sum) nils (bytesN 4 h.seq)
def zeros : List UInt8 := List.replicate 64 0
theorem nils_length : nils.length = 49 := List.length_replicate
theorem parts_length {a c d z e : List UInt8} {b : UInt8} (ha : a.length = 4) (hc : c.length = 2) (hd : d.length = 4) (hz : z.length = 49) (he : e.length = 4) : (parts a b c d z e).length = 64 := by
  unfold parts; simp [ha, hc, hd, hz, he]
theorem pageH_length (h : Head) : (pageH h).length = 64 := parts_length (bytesN_length 4 _) (bytesN_length 2 _) (bytesN_length 4 _) nils_length (bytesN_length 4 _)

/-- any page, part by part -/
theorem parts_of (p : List UInt8) (hp : p.length = 64) : ∃ a b c d z e, a.length = 4 ∧ c.length = 2 ∧ d.length = 4 ∧ z.length = 49 ∧ e.length = 4 ∧ p = parts a b c d z e := by
  have h4 : 4 < p.length := by omega
  refine ⟨p.take 4, p[4], (p.drop 5).take 2, (p.drop 7).take 4, (p.drop 11).take 49, p.drop 60, by simp; omega, by simp; omega, by simp; omega, by simp; omega, by simp; omega, ?_⟩
  unfold parts
  have e3 : (p.drop 11).take 49 ++ p.drop 60 = p.drop 11 := by
    have := List.take_append_drop 49 (p.drop 11); rwa [List.drop_drop] at this
  have e2 : (p.drop 7).take 4 ++ p.drop 11 = p.drop 7 := by
    have := List.take_append_drop 4 (p.drop 7); rwa [List.drop_drop] at this
  have e1 : (p.drop 5).take 2 ++ p.drop 7 = p.drop 5 := by
    have := List.take_append_drop 2 (p.drop 5); rwa [List.drop_drop] at this
  rw [e3, e2, e1, ← List.drop_eq_getElem_cons h4, List.take_append_drop]
theorem parts_inj {a c d z e a' c' d' z' e' : List UInt8} {b b' : UInt8} (ha : a.length = a'.length) (hc : c.length = c'.length) (hd : d.length = d'.length) (hz : z.length = z'.length) (h : parts a b c d z e = parts a' b' c' d' z' e') :
    a = a' ∧ b = b' ∧ c = c' ∧ d = d' ∧ z = z' ∧ e = e' := by
  unfold parts at h
  obtain ⟨h1, h⟩ := List.append_inj h ha
  injection h with h2 h
  obtain ⟨h3, h⟩ := List.append_inj h hc
  obtain ⟨h4, h⟩ := List.append_inj h hd
  obtain ⟨h5, h6⟩ := List.append_inj h hz
  exact ⟨h1, h2, h3, h4, h5, h6⟩

/-! ### numbers and their bytes -/
theorem byteAt_add (k : Nat) (x m : Int) (hm : 256 ^ k * 256 ∣ m) : byteAt k (x + m) = byteAt k x := by
  unfold byteAt
  obtain ⟨q, rfl⟩ := hm
  have e : (x + 256 ^ k * 256 * q) / 256 ^ k = x / 256 ^ k + 256 * q := by
    rw [Int.mul_assoc, Int.add_mul_ediv_left _ _ (Int.ne_of_gt (Int.pow_pos (by omega)))]
  rw [e, Int.add_mul_emod_self_left]
theorem bytesN_add (k : Nat) (x m : Int) (hm : 256 ^ k ∣ m) : bytesN k (x + m) = bytesN k x := by
  induction k with
  | zero => rfl
  | succ k ih =>
    rw [bytesN, bytesN, byteAt_add k x m (by rw [← Int.pow_succ]; exact hm), ih (Int.dvd_trans ⟨256, Int.pow_succ ..⟩ hm)]
theorem bytes_num (l : List UInt8) : bytesN l.length (numOf l) = l := by
  induction l with
  | nil => rfl
  | cons c l ih =>
    obtain ⟨h0, h1⟩ := numOf_bd l
    rw [List.length_cons, bytesN]
    have e1 : byteAt l.length (numOf (c :: l)) = c := by
      unfold byteAt
      have hc := c.toNat_lt
      rw [numOf_cons, Int.add_comm, Int.mul_comm, Int.add_mul_ediv_left _ _ (Int.ne_of_gt (Int.pow_pos (by omega))), Int.ediv_eq_zero_of_lt h0 h1, Int.zero_add, Int.emod_eq_of_lt (by omega) (by omega), Int.toNat_natCast]
      exact UInt8.ofNat_toNat
    rw [e1, numOf_cons, Int.add_comm, bytesN_add _ _ _ ⟨(c.toNat : Int), Int.mul_comm ..⟩, ih]
theorem num_inj {a b : List UInt8} (hl : a.length = b.length) (h : numOf a = numOf b) : a = b := by
  rw [← bytes_num a, ← bytes_num b, h, hl]
theorem bytes4_inj {x y : Int} (hx : 0 ≤ x) (hx' : x < 4294967296) (hy : 0 ≤ y) (hy' : y < 4294967296) (h : bytesN 4 x = bytesN 4 y) : x = y := by
  have := congrArg numOf h
  rw [numOf_bytesN, numOf_bytesN] at this
  have e : (256 : Int) ^ 4 = 4294967296 := rfl
  rw [e] at this
  omega

/-! ### what stands in a page -/
def readH (p : List UInt8) : Head := ⟨getN p 0 4, getN p 4 1 == 1, getN p 5 2, getN p 7 4⟩
theorem get_seq {a c d z e : List UInt8} {b : UInt8} (ha : a.length = 4) : getN (parts a b c d z e) 0 4 = numOf a := by
  unfold getN
  rw [if_pos (by decide)]
  congr 1
  show (List.drop 0 _).take 4 = a
  rw [List.drop_zero]
  unfold parts
  rw [List.take_append_of_le_length (by omega), List.take_of_length_le (by omega)]
theorem drop_at {α : Type} (a b : List α) (n : Nat) (h : a.length = n) : (a ++ b).drop n = b := by rw [← h]; exact List.drop_left
theorem get_live {a c d z e : List UInt8} {b : UInt8} (ha : a.length = 4) : getN (parts a b c d z e) 4 1 = (b.toNat : Int) := by
  unfold getN
  rw [if_pos (by decide)]
  show numOf ((List.drop 4 _).take 1) = _
  unfold parts
  rw [drop_at _ _ 4 ha]
  show numOf [b] = _
  rw [numOf_cons, numOf_nil]
  simp
theorem get_count {a c d z e : List UInt8} {b : UInt8} (ha : a.length = 4) (hc : c.length = 2) : getN (parts a b c d z e) 5 2 = numOf c := by
  unfold getN
  rw [if_pos (by decide)]
  congr 1
  show (List.drop 5 _).take 2 = c
  unfold parts
  rw [show (5 : Nat) = 4 + 1 from rfl, ← List.drop_drop, drop_at _ _ 4 ha]
  show (c ++ _).take 2 = c
  rw [List.take_append_of_le_length (by omega), List.take_of_length_le (by omega)]
theorem get_sum {a c d z e : List UInt8} {b : UInt8} (ha : a.length = 4) (hc : c.length = 2) (hd : d.length = 4) : getN (parts a b c d z e) 7 4 = numOf d := by
  unfold getN
  rw [if_pos (by decide)]
  congr 1
  show (List.drop 7 _).take 4 = d
  unfold parts
  rw [show (7 : Nat) = 4 + (1 + 2) from rfl, ← List.drop_drop, drop_at _ _ 4 ha, ← List.drop_drop]
  show ((c ++ _).drop 2).take 4 = d
  rw [drop_at _ _ 2 hc, List.take_append_of_le_length (by omega), List.take_of_length_le (by omega)]
theorem get_again {a c d z e : List UInt8} {b : UInt8} (ha : a.length = 4) (hc : c.length = 2) (hd : d.length = 4) (hz : z.length = 49) (he : e.length = 4) : getN (parts a b c d z e) 60 4 = numOf e := by
  unfold getN
  rw [if_pos (by decide)]
  congr 1
  show (List.drop 60 _).take 4 = e
  unfold parts
  rw [show (60 : Nat) = 4 + (1 + (2 + (4 + 49))) from rfl, ← List.drop_drop, drop_at _ _ 4 ha, ← List.drop_drop]
  show ((c ++ _).drop (2 + (4 + 49))).take 4 = e
  rw [← List.drop_drop, drop_at _ _ 2 hc, ← List.drop_drop, drop_at _ _ 4 hd, drop_at _ _ 49 hz, List.take_of_length_le (by omega)]
theorem read_parts {a c d z e : List UInt8} {b : UInt8} (ha : a.length = 4) (hc : c.length = 2) (hd : d.length = 4) : readH (parts a b c d z e) = ⟨numOf a, ((b.toNat : Int) == 1), numOf c, numOf d⟩ := by
  unfold readH
  rw [get_seq ha, get_live ha, get_count ha hc, get_sum ha hc hd]
theorem read_bd (p : List UInt8) (hp : p.length = 64) : 0 ≤ (readH p).seq ∧ (readH p).seq < 4294967296 ∧ 0 ≤ (readH p).count ∧ (readH p).count < 65536 ∧ 0 ≤ (readH p).sum ∧ (readH p).sum < 4294967296 := by
  obtain ⟨a, b, c, d, z, e, ha, hc, hd, _, _, rfl⟩ := parts_of p hp
  rw [read_parts ha hc hd]
  have h1 := numOf_bd a
  have h2 := numOf_bd c
  have h3 := numOf_bd d
  rw [ha] at h1
  rw [hc] at h2
  rw [hd] at h3
  simp only
  omega
theorem get_bd (p : List UInt8) (hp : p.length = 64) : 0 ≤ getN p 0 4 ∧ getN p 0 4 < 4294967296 ∧ 0 ≤ getN p 60 4 ∧ getN p 60 4 < 4294967296 := by
  obtain ⟨a, b, c, d, z, e, ha, hc, hd, hz, he, rfl⟩ := parts_of p hp
  rw [get_seq ha, get_again ha hc hd hz he]
  have h1 := numOf_four a (by omega)
  have h2 := numOf_four e (by omega)
  omega
/-- a right head comes back from its page -/
theorem read_page (h : Head) (hr : rightB h = true) (h0 : 0 ≤ h.sum) (h1 : h.sum < 4294967296) : readH (pageH h) = h := by
  obtain ⟨r1, r2, r3, r4⟩ := right_yes hr
  unfold pageH
  rw [read_parts (bytesN_length 4 _) (bytesN_length 2 _) (bytesN_length 4 _), numOf_bytesN, numOf_bytesN, numOf_bytesN]
  have e4 : (256 : Int) ^ 4 = 4294967296 := rfl
  have e2 : (256 : Int) ^ 2 = 65536 := rfl
  rw [e4, e2]
  obtain ⟨s, l, c, m⟩ := h
  simp only at *
  cases l with
  | true =>
    have := r3 rfl
    congr 1 <;> omega
  | false =>
    have := r4 rfl
    congr 1 <;> omega

/-! ### whole pages -/
/-- is a page whole? -/
def wholeB (p : List UInt8) : Bool := rightB (readH p) && decide (pageH (readH p) = p)
/-- the head that is told of a page -/
def decH (p : List UInt8) : Head := if wholeB p = true then readH p else zero
theorem whole_yes {p : List UInt8} (h : wholeB p = true) : rightB (readH p) = true ∧ pageH (readH p) = p := by
  unfold wholeB at h
  rw [Bool.and_eq_true] at h
  exact ⟨h.1, of_decide_eq_true h.2⟩
theorem whole_page (h : Head) (hr : rightB h = true) (h0 : 0 ≤ h.sum) (h1 : h.sum < 4294967296) : wholeB (pageH h) = true := by
  unfold wholeB
  rw [read_page h hr h0 h1, hr]
  simp
/-- the document's own way: both ends alike, a flag, nothing in the midst -/
theorem page_parts {a c d z e : List UInt8} {b : UInt8} (ha : a.length = 4) (hc : c.length = 2) (hd : d.length = 4) (hz : z.length = 49) : pageH (readH (parts a b c d z e)) = parts a b c d z e ↔ (b.toNat ≤ 1 ∧ z = nils ∧ a = e) := by
  rw [read_parts ha hc hd]
  unfold pageH
  have hb4 : bytesN 4 (numOf a) = a := by have := bytes_num a; rwa [ha] at this
  have hb2 : bytesN 2 (numOf c) = c := by have := bytes_num c; rwa [hc] at this
  have hd4 : bytesN 4 (numOf d) = d := by have := bytes_num d; rwa [hd] at this
  rw [hb4, hb2, hd4]
  constructor
  · intro h
    obtain ⟨_, h2, _, _, h5, h6⟩ := parts_inj rfl rfl rfl (by rw [nils_length, hz]) h
    refine ⟨?_, h5.symm, h6⟩
    rw [← h2]
    unfold flag
    split <;> decide
  · rintro ⟨h1, rfl, rfl⟩
    congr 1
    have : b.toNat = 0 ∨ b.toNat = 1 := by omega
    unfold flag
    rcases this with h | h
    · rw [h]; exact (UInt8.toNat_inj.1 (by rw [h]; rfl)).symm
    · rw [h]; exact (UInt8.toNat_inj.1 (by rw [h]; rfl)).symm
def endsB (p : List UInt8) : Bool := getN p 0 4 == getN p 60 4
theorem parts_at {a c d z e : List UInt8} {b : UInt8} (ha : a.length = 4) (hc : c.length = 2) (hd : d.length = 4) (k : Nat) : (parts a b c d z e).getD (11 + k) 0 = (z ++ e).getD k 0 := by
  rw [List.getD_eq_getElem?_getD, List.getD_eq_getElem?_getD]
  congr 1
  unfold parts
  rw [List.getElem?_append_right (by omega), ha, show 11 + k - 4 = (6 + k) + 1 by omega, List.getElem?_cons_succ, List.getElem?_append_right (by omega), hc, List.getElem?_append_right (by omega), hd]
  congr 1
  omega
theorem parts_flag {a c d z e : List UInt8} {b : UInt8} (ha : a.length = 4) : (parts a b c d z e).getD 4 0 = b := by
  rw [List.getD_eq_getElem?_getD]
  unfold parts
  rw [List.getElem?_append_right (by omega), ha]; rfl
theorem flag_get (p : List UInt8) (hp : p.length = 64) : (((p.getD 4 0).toNat : Int) == 1) = (readH p).live := by
  obtain ⟨a, b, c, d, z, e, ha, hc, hd, hz, he, rfl⟩ := parts_of p hp
  rw [read_parts ha hc hd, parts_flag ha]
/-- the whole pages, in the document's own words -/
theorem whole_iff (p : List UInt8) (hp : p.length = 64) : wholeB p = true ↔ getN p 0 4 = getN p 60 4 ∧ (p.getD 4 0).toNat ≤ 1 ∧ (∀ i, 11 ≤ i → i < 60 → p.getD i 0 = 0) ∧ rightB (readH p) = true := by
  obtain ⟨a, b, c, d, z, e, ha, hc, hd, hz, he, rfl⟩ := parts_of p hp
  unfold wholeB
  rw [Bool.and_eq_true, decide_eq_true_iff, page_parts ha hc hd hz, get_seq ha, get_again ha hc hd hz he, parts_flag ha]
  constructor
  · rintro ⟨h0, h1, rfl, rfl⟩
    refine ⟨rfl, h1, fun i hi1 hi2 => ?_, h0⟩
    obtain ⟨k, rfl⟩ : ∃ k, i = 11 + k := ⟨i - 11, by omega⟩
    rw [parts_at ha hc hd, List.getD_eq_getElem?_getD, List.getElem?_append_left (by rw [nils_length]; omega)]
    unfold nils
    rw [List.getElem?_replicate, if_pos (by omega)]; rfl
  · rintro ⟨h1, h2, h3, h0⟩
    refine ⟨h0, h2, ?_, num_inj (by omega) h1⟩
    apply List.ext_getElem?
    intro k
    unfold nils
    rw [List.getElem?_replicate]
    by_cases hk : k < 49
    · rw [if_pos hk]
      have := h3 (11 + k) (by omega) (by omega)
      rw [parts_at ha hc hd, List.getD_eq_getElem?_getD, List.getElem?_append_left (by omega), List.getElem?_eq_getElem (by omega)] at this
      rw [List.getElem?_eq_getElem (by omega)]
      exact congrArg some this
    · rw [if_neg hk, List.getElem?_eq_none (by omega)]

/-! ### a page that begins as one's, and goes on as the other's -/
theorem page_ends {h : Head} : (pageH h).take 4 = bytesN 4 h.seq ∧ (pageH h).drop 60 = bytesN 4 h.seq := by
  constructor
  · unfold pageH parts
    rw [List.take_append_of_le_length (by rw [bytesN_length]; omega), List.take_of_length_le (by rw [bytesN_length]; omega)]
  · unfold pageH parts
    rw [show (60 : Nat) = 4 + (1 + (2 + (4 + 49))) from rfl, ← List.drop_drop, drop_at _ _ 4 (bytesN_length 4 _), ← List.drop_drop]
    show ((bytesN 2 _ ++ _).drop (2 + (4 + 49))) = _
    rw [← List.drop_drop, drop_at _ _ 2 (bytesN_length 2 _), ← List.drop_drop, drop_at _ _ 4 (bytesN_length 4 _), drop_at _ _ 49 nils_length]
theorem torn (g h : Head) (hg : rightB g = true) (hh : rightB h = true) (hne : g.seq ≠ h.seq) (n : Nat) (hn : n ≤ 64) (hw : wholeB ((pageH g).take n ++ (pageH h).drop n) = true) :
    (pageH g).take n ++ (pageH h).drop n = pageH g ∨ (pageH g).take n ++ (pageH h).drop n = pageH h := by
  obtain ⟨g1, g2, _⟩ := right_yes hg
  obtain ⟨h1, h2, _⟩ := right_yes hh
  obtain ⟨_, hx⟩ := whole_yes hw
  obtain ⟨lg, lh⟩ := And.intro (pageH_length g) (pageH_length h)
  obtain ⟨eg1, eg2⟩ := page_ends (h := g)
  obtain ⟨eh1, eh2⟩ := page_ends (h := h)
  generalize hxd : (pageH g).take n ++ (pageH h).drop n = x at *
  obtain ⟨ex1, ex2⟩ := page_ends (h := readH x)
  rw [hx] at ex1 ex2
  have both : x.take 4 = x.drop 60 := by rw [ex1, ex2]
  by_cases hc : n ≤ 60
  · -- the end is the other's
    have e2 : x.drop 60 = bytesN 4 h.seq := by
      rw [← hxd, ← eh2, List.drop_append, List.drop_of_length_le (by simp; omega), List.nil_append, List.drop_drop]
      congr 1
      simp
      omega
    by_cases hc4 : 4 ≤ n
    · exfalso
      have e1 : x.take 4 = bytesN 4 g.seq := by
        rw [← hxd, ← eg1, List.take_append_of_le_length (by simp; omega), List.take_take]
        congr 1
        omega
      exact hne (bytes4_inj g1 g2 h1 h2 (by rw [← e1, ← e2, both]))
    · right
      have e1 : x.take 4 = (pageH h).take 4 := by rw [both, e2, eh1]
      have e3 : x.drop 4 = (pageH h).drop 4 := by
        rw [← hxd, List.drop_append, List.drop_of_length_le (by simp; omega), List.nil_append, List.drop_drop]
        congr 1
        simp
        omega
      rw [← List.take_append_drop 4 x, e1, e3, List.take_append_drop]
  · left
    have e1 : x.take 60 = (pageH g).take 60 := by
      rw [← hxd, List.take_append_of_le_length (by simp; omega), List.take_take]
      congr 1
      omega
    have e0 : x.take 4 = bytesN 4 g.seq := by
      have := congrArg (List.take 4) e1
      rw [List.take_take, List.take_take] at this
      exact this.trans eg1
    have e2 : x.drop 60 = (pageH g).drop 60 := by rw [← both, e0, eg2]
    rw [← List.take_append_drop 60 x, e1, e2, List.take_append_drop]

/-! ### the next number -/
def up (n : Int) (p : List UInt8) : Int := max (max n (getN p 0 4 + 1)) (getN p 60 4 + 1)
def nextN (ps : List (List UInt8)) : Int := ps.foldl up 0
theorem nextN_snoc (ps : List (List UInt8)) (p : List UInt8) : nextN (ps ++ [p]) = up (nextN ps) p := by
  unfold nextN; rw [List.foldl_append]; rfl
theorem up_le (n : Int) (p : List UInt8) (M : Int) : up n p ≤ M ↔ n ≤ M ∧ getN p 0 4 < M ∧ getN p 60 4 < M := by unfold up; omega
theorem fold_le (ps : List (List UInt8)) : ∀ (n M : Int), ps.foldl up n ≤ M ↔ n ≤ M ∧ ∀ p ∈ ps, getN p 0 4 < M ∧ getN p 60 4 < M := by
  induction ps with
  | nil => intro n M; simp
  | cons p ps ih =>
    intro n M
    rw [List.foldl_cons, ih, up_le]
    simp only [List.mem_cons, forall_eq_or_imp]
    constructor
    · rintro ⟨⟨h1, h2⟩, h3⟩; exact ⟨h1, h2, h3⟩
    · rintro ⟨h1, h2, h3⟩; exact ⟨⟨h1, h2⟩, h3⟩
theorem nextN_le (ps : List (List UInt8)) (M : Int) : nextN ps ≤ M ↔ 0 ≤ M ∧ ∀ p ∈ ps, getN p 0 4 < M ∧ getN p 60 4 < M := fold_le ps 0 M
theorem nextN_nonneg (ps : List (List UInt8)) : 0 ≤ nextN ps := ((nextN_le ps (nextN ps)).1 (Int.le_refl _)).1
theorem nextN_gt (ps : List (List UInt8)) (p : List UInt8) (h : p ∈ ps) : getN p 0 4 < nextN ps := (((nextN_le ps (nextN ps)).1 (Int.le_refl _)).2 p h).1
theorem nextN_sub (ps qs : List (List UInt8)) (h : ∀ p ∈ ps, p ∈ qs) : nextN ps ≤ nextN qs :=
  (nextN_le ps _).2 ⟨nextN_nonneg qs, fun p hp => ((nextN_le qs _).1 (Int.le_refl _)).2 p (h p hp)⟩
theorem nextN_same (ps qs : List (List UInt8)) (h : ∀ p, p ∈ ps ↔ p ∈ qs) : nextN ps = nextN qs :=
  Int.le_antisymm (nextN_sub ps qs fun p => (h p).1) (nextN_sub qs ps fun p => (h p).2)
theorem nextN_top (ps : List (List UInt8)) (h : ∀ p ∈ ps, p.length = 64) : nextN ps ≤ 4294967296 :=
  (nextN_le ps _).2 ⟨by omega, fun p hp => by have := get_bd p (h p hp); omega⟩
end Go.Proofs.YtppbiohjhnoagaaGreat.Hd

/-
  A region that draws its order, gone through in ONE order: each operation either gives the same value in every world of a kind and keeps it of that kind (a call that makes memory too), or is one of a few that turn the kind and wait for one another.
-/
namespace Go.Proofs.YtppbiohjhnoagaaGreat
open Go.RowKit

section
variable {P : Program} {ops : Array Oper} {Q : Exit → Act → World → Prop} {md : Region.Mode} {σ : Type} {S : σ → World → Prop} {sp : Nat → Bool} {vals : Nat → Value}

/-- what an operation gives, and the world behind it -/
def Gives (P : Program) (m : Sem Next) (w : World) (R : Value → World → Prop) : Prop :=
  match m.run P w with
  | .ok (.value u) w' => R u w'
  | .ok .skip w' => R undef w'
  | .ok (.enter f args) w' => Calls P f args w' fun e w'' => ∃ u, e = .returned u ∧ R u w''
  | _ => False
theorem Gives.mono {m : Sem Next} {w : World} {R R' : Value → World → Prop} (h : Gives P m w R) (hr : ∀ u w', R u w' → R' u w') : Gives P m w R' := by
  unfold Gives at *
  generalize m.run P w = r at *
  cases r with
  | halt x w' => exact h
  | ok n w' =>
    cases n <;> simp only at h ⊢
    case value u => exact hr _ _ h
    case skip => exact hr _ _ h
    case enter f args => exact h.mono fun e w'' ⟨u, hu, hR⟩ => ⟨u, hu, hr _ _ hR⟩
theorem Gives.wp {o : Oper} {a : Act} {w : World} {R : Value → World → Prop} {K : Act → World → Prop} (h : Gives P (execOp a.eval o) w R) (hK : ∀ u w', R u w' → K (a.put o.dst u) w') : Oper.wp P o a w K Q := by
  unfold Gives at h
  unfold Oper.wp
  generalize (execOp a.eval o).run P w = r at *
  cases r with
  | halt x w' => exact h.elim
  | ok n w' =>
    cases n <;> simp only [Oper.upon] at h ⊢
    case value u => exact hK _ _ h
    case skip => exact hK _ _ h
    case enter f args =>
      refine h.mono fun e w'' ⟨u, hu, hR⟩ => ?_
      subst hu
      exact hK _ _ hR
theorem gives_value {m : Sem Next} {w : World} {R : Value → World → Prop} {v : Value} (h : m.run P w = .ok (.value v) w) (hR : R v w) : Gives P m w R := by
  unfold Gives; rw [h]; exact hR
theorem gives_to {m : Sem Next} {w w' : World} {R : Value → World → Prop} {v : Value} (h : m.run P w = .ok (.value v) w') (hR : R v w') : Gives P m w R := by
  unfold Gives; rw [h]; exact hR
theorem gives_call {m : Sem Next} {w : World} {R : Value → World → Prop} {f : FuncId} {args : Array Value} (h : m.run P w = .ok (.enter f args) w) (hR : Calls P f args w fun e w'' => ∃ u, e = .returned u ∧ R u w'') : Gives P m w R := by
  unfold Gives; rw [h]; exact hR

/-- in every world of every kind: the same value, the same kind -/
def OrdAt (P : Program) (ops : Array Oper) (S : σ → World → Prop) (o : Oper) (v : Value) (a : Act) : Prop :=
  (Region.wanted o (yielded ops a.tmps) = true ∧ ∀ s w, S s w → Gives P (execOp a.eval o) w fun u w' => u = v ∧ S s w') ∨
  (Region.wanted o (yielded ops a.tmps) = false ∧ v = undef)
/-- in every world of this kind: a value and a kind that go together -/
def SpecAt (P : Program) (ops : Array Oper) (S : σ → World → Prop) (s : σ) (o : Oper) (a : Act) (N : Value → σ → Prop) : Prop :=
  Region.wanted o (yielded ops a.tmps) = true ∧ ∀ w, S s w → Gives P (execOp a.eval o) w fun u w' => ∃ s', N u s' ∧ S s' w'

theorem OrdAt.put {oi oj : Oper} {v u : Value} {a : Act} (hs : ∀ cs b, oi.op ≠ .select cs b) (h : ∀ d, oj.dst = some d → d ∉ oi.looksAt ops) (hy : OrdAt P ops S oi v a) : OrdAt P ops S oi v (a.put oj.dst u) := by
  unfold OrdAt at *
  rw [execOp_put oi hs a oj.dst u h, wanted_put oi a oj.dst u h]
  exact hy
theorem OrdAt.unput {oi oj : Oper} {v u : Value} {a : Act} (hs : ∀ cs b, oj.op ≠ .select cs b) (h : ∀ d, oi.dst = some d → d ∉ oj.looksAt ops) (hy : OrdAt P ops S oj v (a.put oi.dst u)) : OrdAt P ops S oj v a := by
  unfold OrdAt at *
  rw [execOp_put oj hs a oi.dst u h, wanted_put oj a oi.dst u h] at hy
  exact hy
theorem SpecAt.put {oi oj : Oper} {s : σ} {u : Value} {N : Value → σ → Prop} {a : Act} (hs : ∀ cs b, oi.op ≠ .select cs b) (h : ∀ d, oj.dst = some d → d ∉ oi.looksAt ops) (hy : SpecAt P ops S s oi a N) : SpecAt P ops S s oi (a.put oj.dst u) N := by
  unfold SpecAt at *
  rw [execOp_put oi hs a oj.dst u h, wanted_put oi a oj.dst u h]
  exact hy
theorem SpecAt.unput {oi oj : Oper} {s : σ} {u : Value} {N : Value → σ → Prop} {a : Act} (hs : ∀ cs b, oj.op ≠ .select cs b) (h : ∀ d, oi.dst = some d → d ∉ oj.looksAt ops) (hy : SpecAt P ops S s oj (a.put oi.dst u) N) : SpecAt P ops S s oj a N := by
  unfold SpecAt at *
  rw [execOp_put oj hs a oi.dst u h, wanted_put oj a oi.dst u h] at hy
  exact hy

/-- nobody who may come ahead of it touches what it looks at or writes -/
def FreeAt (md : Region.Mode) (ops : Array Oper) (listed : Array Bool) (i : Nat) (oi : Oper) : Prop :=
  ∀ j oj, ops[j]? = some oj → j ≠ i → listed.getD j true = false → (∀ e ∈ oj.after, Region.binds md e = true → e.on ≠ i) → oi.apart ops oj = true
theorem unlisted_set {listed : Array Bool} {j k : Nat} (h : (listed.setIfInBounds j true).getD k true = false) : listed.getD k true = false := by
  by_cases hjk : j = k
  · subst hjk
    rcases Nat.lt_or_ge j listed.size with h' | h'
    · simp [h'] at h
    · simp at h
  · rw [getD_set_ne true hjk] at h; exact h
theorem FreeAt.set {listed : Array Bool} {i j : Nat} {oi : Oper} (h : FreeAt md ops listed i oi) : FreeAt md ops (listed.setIfInBounds j true) i oi :=
  fun k ok hk hki hun hno => h k ok hk hki (unlisted_set hun) hno
theorem waits_not {listed : Array Bool} {i j : Nat} {oj : Oper} (hr : i ∈ Region.ready md ops listed) (hj : j ∈ Region.ready md ops listed) (hoj : ops[j]? = some oj) : ∀ e ∈ oj.after, Region.binds md e = true → e.on ≠ i := by
  intro e he hb heq
  obtain ⟨_, o, ho, hall⟩ := mem_ready.1 hj
  rw [hoj] at ho
  injection ho with ho
  subst ho
  have h1 := hall e he hb
  have h0 := (mem_ready.1 hr).1
  rw [heq] at h1
  rcases Nat.lt_or_ge i listed.size with h' | h'
  · simp [h'] at h0 h1; rw [h0] at h1; cases h1
  · simp [Array.getElem?_eq_none h'] at h1

/-- all others that turn the kind wait for this one, it may be through others (D) that wait for it -/
def WaitsFor (md : Region.Mode) (ops : Array Oper) (sp : Nat → Bool) (listed : Array Bool) (i : Nat) (D : Nat → Bool) : Prop :=
  (∀ k ok, ops[k]? = some ok → sp k = true → k ≠ i → listed.getD k true = false → D k = true) ∧
  (∀ u, D u = true → u ≠ i ∧ listed.getD u true = false ∧ ∃ ou, ops[u]? = some ou ∧ ∃ e ∈ ou.after, Region.binds md e = true ∧ (e.on = i ∨ D e.on = true))
theorem WaitsFor.not_ready {sp : Nat → Bool} {listed : Array Bool} {i : Nat} {D : Nat → Bool} (h : WaitsFor md ops sp listed i D) (hr : i ∈ Region.ready md ops listed) {j : Nat} (hj : j ∈ Region.ready md ops listed) : D j = false := by
  cases hD : D j with
  | false => rfl
  | true =>
    exfalso
    obtain ⟨_, _, ou, hou, e, he, hb, hon⟩ := h.2 j hD
    rcases hon with hon | hon
    · exact waits_not hr hj hou e he hb hon
    · obtain ⟨_, hun, ou2, hou2, _⟩ := h.2 e.on hon
      obtain ⟨_, o, ho, hall⟩ := mem_ready.1 hj
      rw [hou] at ho
      injection ho with ho
      subst ho
      have h1 := hall e he hb
      rcases Nat.lt_or_ge e.on listed.size with h' | h'
      · simp [h'] at h1 hun; rw [h1] at hun; cases hun
      · simp [Array.getElem?_eq_none h'] at hun
theorem WaitsFor.set {sp : Nat → Bool} {listed : Array Bool} {i : Nat} {D : Nat → Bool} (h : WaitsFor md ops sp listed i D) (hr : i ∈ Region.ready md ops listed) {j : Nat} (hj : j ∈ Region.ready md ops listed) : WaitsFor md ops sp (listed.setIfInBounds j true) i D := by
  refine ⟨fun k ok hk hks hki hun => h.1 k ok hk hks hki (unlisted_set hun), fun u hu => ?_⟩
  obtain ⟨h1, h2, h3⟩ := h.2 u hu
  refine ⟨h1, ?_, h3⟩
  have hne : j ≠ u := fun e => by rw [← e, h.not_ready hr hj] at hu; cases hu
  rw [getD_set_ne true hne]; exact h2
/-- one order, step by step -/
inductive Lin (P : Program) (md : Region.Mode) (ops : Array Oper) (Q : Exit → Act → World → Prop) (S : σ → World → Prop) (sp : Nat → Bool) (vals : Nat → Value) : Nat → σ → Array Bool → Act → Prop
  | done {n : Nat} {s : σ} {listed : Array Bool} {a : Act} (hr : Region.ready md ops listed = []) (hQ : ∀ w, S s w → Q .normal a w) : Lin P md ops Q S sp vals n s listed a
  | ord {n : Nat} {s : σ} {listed : Array Bool} {a : Act} (i : Nat) (o : Oper) (hi : ops[i]? = some o) (hr : i ∈ Region.ready md ops listed) (hf : FreeAt md ops listed i o) (hsp : sp i = false)
      (hy : OrdAt P ops S o (vals i) a) (h : Lin P md ops Q S sp vals n s (listed.setIfInBounds i true) (a.put o.dst (vals i))) : Lin P md ops Q S sp vals (n + 1) s listed a
  | spec {n : Nat} {s : σ} {listed : Array Bool} {a : Act} (i : Nat) (o : Oper) (N : Value → σ → Prop) (hi : ops[i]? = some o) (hr : i ∈ Region.ready md ops listed) (hf : FreeAt md ops listed i o) (hsp : sp i = true)
      (hw : ∃ D : Nat → Bool, WaitsFor md ops sp listed i D)
      (hN : ∃ u s', N u s') (hy : SpecAt P ops S s o a N) (h : ∀ u s', N u s' → Lin P md ops Q S sp vals n s' (listed.setIfInBounds i true) (a.put o.dst u)) : Lin P md ops Q S sp vals (n + 1) s listed a

variable (hsel : ∀ (j : Nat) (o : Oper) cs b, ops[j]? = some o → o.op ≠ .select cs b)
include hsel

theorem Lin.first : ∀ (n : Nat) (s : σ) (listed : Array Bool) (a : Act) (j : Nat) (oj : Oper), Lin P md ops Q S sp vals n s listed a → j ∈ Region.ready md ops listed → ops[j]? = some oj → sp j = false →
    OrdAt P ops S oj (vals j) a ∧ ∃ m, n = m + 1 ∧ Lin P md ops Q S sp vals m s (listed.setIfInBounds j true) (a.put oj.dst (vals j)) := by
  intro n
  induction n with
  | zero =>
    intro s listed a j oj hl hj _ _
    cases hl with
    | done hr _ => rw [hr] at hj; cases hj
  | succ n ih =>
    intro s listed a j oj hl hj hoj hsj
    cases hl with
    | done hr _ => rw [hr] at hj; cases hj
    | ord i o hi hr hf hsp hy h =>
      by_cases hji : j = i
      · subst hji
        rw [hi] at hoj
        injection hoj with hoj
        subst hoj
        exact ⟨hy, n, rfl, h⟩
      · obtain ⟨h1, m, rfl, h2⟩ := ih _ _ _ j oj h (ready_mono hj hji) hoj hsj
        obtain ⟨a1, a2, a3⟩ := Oper.apart_spec (hf j oj hoj hji (mem_ready.1 hj).1 (waits_not hr hj hoj))
        refine ⟨h1.unput (fun cs b => hsel j oj cs b hoj) a1, m + 1, rfl, Lin.ord i o hi (ready_mono hr (Ne.symm hji)) hf.set hsp (hy.put (fun cs b => hsel i o cs b hi) a3) ?_⟩
        rw [← Act.put_comm a _ _ a2, Array.setIfInBounds_comm _ _ hji]
        exact h2
    | spec i o N hi hr hf hsp hw hN hy h =>
      have hji : j ≠ i := fun e => by rw [e, hsp] at hsj; cases hsj
      obtain ⟨a1, a2, a3⟩ := Oper.apart_spec (hf j oj hoj hji (mem_ready.1 hj).1 (waits_not hr hj hoj))
      obtain ⟨u0, s0, hN0⟩ := hN
      obtain ⟨h1, m, rfl, _⟩ := ih _ _ _ j oj (h u0 s0 hN0) (ready_mono hj hji) hoj hsj
      refine ⟨h1.unput (fun cs b => hsel j oj cs b hoj) a1, m + 1, rfl, Lin.spec i o N hi (ready_mono hr (Ne.symm hji)) hf.set hsp (hw.imp fun _ hW => hW.set hr hj) ⟨u0, s0, hN0⟩ (hy.put (fun cs b => hsel i o cs b hi) a3) ?_⟩
      intro u s' hus
      obtain ⟨_, m', hm', h2⟩ := ih _ _ _ j oj (h u s' hus) (ready_mono hj hji) hoj hsj
      obtain rfl : m = m' := by omega
      rw [← Act.put_comm a _ _ a2, Array.setIfInBounds_comm _ _ hji]
      exact h2

theorem Lin.turns : ∀ (n : Nat) (s : σ) (listed : Array Bool) (a : Act) (j : Nat) (oj : Oper), Lin P md ops Q S sp vals n s listed a → j ∈ Region.ready md ops listed → ops[j]? = some oj → sp j = true →
    ∃ N, SpecAt P ops S s oj a N ∧ ∃ m, n = m + 1 ∧ ∀ u s', N u s' → Lin P md ops Q S sp vals m s' (listed.setIfInBounds j true) (a.put oj.dst u) := by
  intro n
  induction n with
  | zero =>
    intro s listed a j oj hl hj _ _
    cases hl with
    | done hr _ => rw [hr] at hj; cases hj
  | succ n ih =>
    intro s listed a j oj hl hj hoj hsj
    cases hl with
    | done hr _ => rw [hr] at hj; cases hj
    | ord i o hi hr hf hsp hy h =>
      have hji : j ≠ i := fun e => by rw [e, hsp] at hsj; cases hsj
      obtain ⟨N, h1, m, rfl, h2⟩ := ih _ _ _ j oj h (ready_mono hj hji) hoj hsj
      obtain ⟨a1, a2, a3⟩ := Oper.apart_spec (hf j oj hoj hji (mem_ready.1 hj).1 (waits_not hr hj hoj))
      refine ⟨N, h1.unput (fun cs b => hsel j oj cs b hoj) a1, m + 1, rfl, fun u s' hus => Lin.ord i o hi (ready_mono hr (Ne.symm hji)) hf.set hsp (hy.put (fun cs b => hsel i o cs b hi) a3) ?_⟩
      rw [← Act.put_comm a _ _ a2, Array.setIfInBounds_comm _ _ hji]
      exact h2 u s' hus
    | spec i o N hi hr hf hsp hw hN hy h =>
      by_cases hji : j = i
      · subst hji
        rw [hi] at hoj
        injection hoj with hoj
        subst hoj
        exact ⟨N, hy, n, rfl, h⟩
      · obtain ⟨D, hW⟩ := hw
        have h1 := hW.1 j oj hoj hsj hji (mem_ready.1 hj).1
        rw [hW.not_ready hr hj] at h1
        cases h1

theorem Lin.any : ∀ (n : Nat) (s : σ) (listed : Array Bool) (a : Act) (w : World), Lin P md ops Q S sp vals n s listed a → S s w → wpAny P md ops Q n listed a w := by
  intro n
  induction n with
  | zero =>
    intro s listed a w hl hS
    cases hl with
    | done hr hQ => exact ⟨hr, hQ w hS⟩
  | succ n ih =>
    intro s listed a w hl hS
    refine ⟨fun h => ?_, fun j hj => ?_⟩
    · cases hl with
      | done hr hQ => exact hQ w hS
      | ord i o hi hr => rw [h] at hr; cases hr
      | spec i o N hi hr => rw [h] at hr; cases hr
    · obtain ⟨_, oj, hoj, _⟩ := mem_ready.1 hj
      unfold wpOp
      simp only [hoj]
      cases hsj : sp j with
      | false =>
        obtain ⟨h1, m, hm, h2⟩ := Lin.first hsel _ _ _ _ j oj hl hj hoj hsj
        obtain rfl : n = m := by omega
        rcases h1 with ⟨hw, hg⟩ | ⟨hw, hv⟩
        · rw [if_pos hw]
          refine Or.inl ((hg s w hS).wp fun u w' ⟨hu, hS'⟩ => ?_)
          subst hu
          exact ih _ _ _ _ h2 hS'
        · rw [if_neg (by rw [hw]; exact Bool.false_ne_true)]
          rw [hv] at h2
          exact ih _ _ _ _ h2 hS
      | true =>
        obtain ⟨N, ⟨hw, hg⟩, m, hm, h2⟩ := Lin.turns hsel _ _ _ _ j oj hl hj hoj hsj
        obtain rfl : n = m := by omega
        rw [if_pos hw]
        exact Or.inl ((hg w hS).wp fun u w' ⟨s', hu, hS'⟩ => ih _ _ _ _ (h2 u s' hu) hS')
end

/-! ### the moves of a walk -/
section
variable {P : Program} {ops : Array Oper} {Q : Exit → Act → World → Prop} {σ : Type} {S : σ → World → Prop} {sp : Nat → Bool} {vals : Nat → Value}
/-- the beginning -/
theorem wp_region_lin {id : Nat} {a : Act} {w : World} (S : σ → World → Prop) (sp : Nat → Bool) (vals : Nat → Value) (s : σ) (hm : P.follows .mixedOrders = true) (hs : Region.noSelect ops = true) (hS : S s w.drew)
    (h : Lin P .any ops Q S sp vals ops.size s (Array.replicate ops.size false) a) : (Code.region id ops true).wp P Q a w :=
  wp_region_any hm (Lin.any (Region.noSelect_spec hs) _ _ _ _ _ h hS)
/-- do all others that turn the kind wait for this one? -/
def waitB (ops : Array Oper) (sp : Nat → Bool) (listed : Array Bool) (i : Nat) : Bool :=
  (List.range ops.size).all fun k => k == i || !sp k || listed.getD k true || match ops[k]? with
    | some ok => ok.after.any fun e => Region.binds .any e && e.on == i
    | none => true
theorem waitB_spec {listed : Array Bool} {i : Nat} (h : waitB ops sp listed i = true) (k : Nat) (ok : Oper) (hk : ops[k]? = some ok) (hs : sp k = true) (hne : k ≠ i) (hun : listed.getD k true = false) : ∃ e ∈ ok.after, Region.binds .any e = true ∧ e.on = i := by
  simp only [waitB, List.all_eq_true, List.mem_range] at h
  have h1 := h k (Array.getElem?_eq_some_iff.1 hk).1
  simp only [hk, Bool.or_eq_true, beq_iff_eq, hne, false_or, hun, hs, Bool.not_true, Bool.false_eq_true] at h1
  obtain ⟨e, he, hb⟩ := Array.any_eq_true'.1 h1
  simp only [Bool.and_eq_true, beq_iff_eq] at hb
  exact ⟨e, he, hb.1, hb.2⟩
theorem waits_direct {listed : Array Bool} {i : Nat} (h : waitB ops sp listed i = true) : WaitsFor .any ops sp listed i (fun k => decide (k < ops.size) && sp k && !(k == i) && !listed.getD k true) := by
  refine ⟨fun k ok hk hs hne hun => ?_, fun u hu => ?_⟩
  · have := (Array.getElem?_eq_some_iff.1 hk).1
    simp [this, hs, hun, hne]
  · simp only [Bool.and_eq_true, decide_eq_true_eq, Bool.not_eq_true', beq_eq_false_iff_ne] at hu
    obtain ⟨⟨⟨h1, h2⟩, h3⟩, h4⟩ := hu
    obtain ⟨e, he, hb, hon⟩ := waitB_spec h u _ (Array.getElem?_eq_getElem h1) h2 h3 h4
    exact ⟨h3, h4, _, Array.getElem?_eq_getElem h1, e, he, hb, Or.inl hon⟩
theorem lin_step {n : Nat} {s : σ} {listed : Array Bool} {a : Act} {i : Nat} {o : Oper} {v : Value} {d : Option Tmp} (hi : ops[i]? = some o) (hd : o.dst = d) (hr : (Region.ready .any ops listed).contains i = true) (hf : Region.free .any ops listed i = true) (hsp : sp i = false) (hv : vals i = v)
    (hy : OrdAt P ops S o v a) (h : Lin P .any ops Q S sp vals n s (listed.setIfInBounds i true) (a.put d v)) : Lin P .any ops Q S sp vals (n + 1) s listed a :=
  Lin.ord i o hi (by simpa using hr) (Region.free_spec hi hf) hsp (hv ▸ hy) (by rw [hd, hv]; exact h)
theorem lin_turn {n : Nat} {s : σ} {listed : Array Bool} {a : Act} {i : Nat} {o : Oper} {d : Option Tmp} (N : Value → σ → Prop) (hi : ops[i]? = some o) (hd : o.dst = d) (hr : (Region.ready .any ops listed).contains i = true) (hf : Region.free .any ops listed i = true) (hsp : sp i = true)
    (hw : waitB ops sp listed i = true) (hN : ∃ u s', N u s') (hwa : Region.wanted o (yielded ops a.tmps) = true) (hy : ∀ w, S s w → Gives P (execOp a.eval o) w fun u w' => ∃ s', N u s' ∧ S s' w')
    (h : ∀ u s', N u s' → Lin P .any ops Q S sp vals n s' (listed.setIfInBounds i true) (a.put d u)) : Lin P .any ops Q S sp vals (n + 1) s listed a :=
  Lin.spec i o N hi (by simpa using hr) (Region.free_spec hi hf) hsp ⟨_, waits_direct hw⟩ hN ⟨hwa, hy⟩ (by rw [hd]; exact h)
/-- the same, where D is told -/
def waitD (ops : Array Oper) (sp : Nat → Bool) (listed : Array Bool) (i : Nat) (D : List Nat) : Bool :=
  ((List.range ops.size).all fun k => k == i || !sp k || listed.getD k true || D.contains k) &&
  D.all fun u => !(u == i) && !listed.getD u true && match ops[u]? with
    | some ou => ou.after.any fun e => Region.binds .any e && (e.on == i || D.contains e.on)
    | none => false
theorem waitD_spec {listed : Array Bool} {i : Nat} {D : List Nat} (h : waitD ops sp listed i D = true) : WaitsFor .any ops sp listed i (fun u => D.contains u) := by
  simp only [waitD, Bool.and_eq_true] at h
  obtain ⟨h1, h2⟩ := h
  simp only [List.all_eq_true, List.mem_range] at h1 h2
  refine ⟨fun k ok hk hs hne hun => ?_, fun u hu => ?_⟩
  · have h3 := h1 k (Array.getElem?_eq_some_iff.1 hk).1
    simp only [Bool.or_eq_true, beq_iff_eq, hne, false_or, hun, hs, Bool.not_true, Bool.false_eq_true] at h3
    exact h3
  · have h3 := h2 u (by simpa using hu)
    simp only [Bool.and_eq_true, Bool.not_eq_true', beq_eq_false_iff_ne] at h3
    obtain ⟨⟨h4, h5⟩, h6⟩ := h3
    cases ho : ops[u]? with
    | none => rw [ho] at h6; cases h6
    | some ou =>
      rw [ho] at h6
      obtain ⟨e, he, hb⟩ := Array.any_eq_true'.1 h6
      simp only [Bool.and_eq_true, Bool.or_eq_true, beq_iff_eq] at hb
      exact ⟨h4, h5, ou, rfl, e, he, hb.1, hb.2⟩
theorem lin_turnD {n : Nat} {s : σ} {listed : Array Bool} {a : Act} {i : Nat} {o : Oper} {d : Option Tmp} (D : List Nat) (N : Value → σ → Prop) (hi : ops[i]? = some o) (hd : o.dst = d) (hr : (Region.ready .any ops listed).contains i = true) (hf : Region.free .any ops listed i = true) (hsp : sp i = true)
    (hw : waitD ops sp listed i D = true) (hN : ∃ u s', N u s') (hwa : Region.wanted o (yielded ops a.tmps) = true) (hy : ∀ w, S s w → Gives P (execOp a.eval o) w fun u w' => ∃ s', N u s' ∧ S s' w')
    (h : ∀ u s', N u s' → Lin P .any ops Q S sp vals n s' (listed.setIfInBounds i true) (a.put d u)) : Lin P .any ops Q S sp vals (n + 1) s listed a :=
  Lin.spec i o N hi (by simpa using hr) (Region.free_spec hi hf) hsp ⟨_, waitD_spec hw⟩ hN ⟨hwa, hy⟩ (by rw [hd]; exact h)
theorem lin_done {n : Nat} {s : σ} {listed : Array Bool} {a : Act} (hr : Region.ready .any ops listed = []) (hQ : ∀ w, S s w → Q .normal a w) : Lin P .any ops Q S sp vals n s listed a := Lin.done hr hQ
/-- an operation that looks at no memory, or at what every world of these kinds holds -/
theorem ord_value {o : Oper} {v : Value} {a : Act} (hw : Region.wanted o (yielded ops a.tmps) = true) (h : ∀ s w, S s w → (execOp a.eval o).run P w = .ok (.value v) w) : OrdAt P ops S o v a :=
  Or.inl ⟨hw, fun s w hS => gives_value (h s w hS) ⟨rfl, hS⟩⟩
theorem ord_skip {o : Oper} {a : Act} (hw : Region.wanted o (yielded ops a.tmps) = false) : OrdAt P ops S o undef a := Or.inr ⟨hw, rfl⟩
theorem ord_call {o : Oper} {v : Value} {a : Act} {f : FuncId} {args : Array Value} (hw : Region.wanted o (yielded ops a.tmps) = true) (hop : ∀ w, (execOp a.eval o).run P w = .ok (.enter f args) w)
    (h : ∀ s w, S s w → Calls P f args w fun e w' => e = .returned v ∧ S s w') : OrdAt P ops S o v a :=
  Or.inl ⟨hw, fun s w hS => gives_call (hop w) ((h s w hS).mono fun _ _ ⟨he, hS'⟩ => ⟨v, he, rfl, hS'⟩)⟩
end
end Go.Proofs.YtppbiohjhnoagaaGreat

/-
  Heads as values; the contracts of head.Right and of the document's own Right.
-/
namespace Go.Proofs.YtppbiohjhnoagaaGreat
open Go.RowKit
open Dk (zeros zeros_length)
open Hd (Head rightB pageH)

/-- a head's value -/
def headV (h : Head) : Value := .agg #[.int .i64 h.seq, .bool h.live, .int .i64 h.count, .int .u32 h.sum]

set_option maxRecDepth 100000 in
theorem right_true {s : Int} {l : Bool} {c m : Int} (h1 : 0 ≤ s) (h2 : s < 4294967296) (h3 : l = true → 1 ≤ c ∧ c ≤ 512) (h4 : l = false → c = 0 ∧ m = 0) : rightB ⟨s, l, c, m⟩ = true := decide_eq_true ⟨h1, h2, h3, h4⟩
set_option maxRecDepth 100000 in
theorem right_cases (s : Int) (l : Bool) (c m : Int) : (s < 0 ∧ rightB ⟨s, l, c, m⟩ = false) ∨ (0 ≤ s ∧ 4294967295 < s ∧ rightB ⟨s, l, c, m⟩ = false) ∨
    (0 ≤ s ∧ s ≤ 4294967295 ∧ ((l = true ∧ c < 1 ∧ rightB ⟨s, l, c, m⟩ = false) ∨ (l = true ∧ 1 ≤ c ∧ 512 < c ∧ rightB ⟨s, l, c, m⟩ = false) ∨ (l = true ∧ 1 ≤ c ∧ c ≤ 512 ∧ rightB ⟨s, l, c, m⟩ = true) ∨
      (l = false ∧ c ≠ 0 ∧ rightB ⟨s, l, c, m⟩ = false) ∨ (l = false ∧ c = 0 ∧ m ≠ 0 ∧ rightB ⟨s, l, c, m⟩ = false) ∨ (l = false ∧ c = 0 ∧ m = 0 ∧ rightB ⟨s, l, c, m⟩ = true))) := by
  have hn : ∀ P : Prop, (¬ (0 ≤ s ∧ s < 4294967296 ∧ (l = true → 1 ≤ c ∧ c ≤ 512) ∧ (l = false → c = 0 ∧ m = 0))) → rightB ⟨s, l, c, m⟩ = false := fun _ h => decide_eq_false h
  by_cases h1 : s < 0
  · exact Or.inl ⟨h1, hn True (by omega)⟩
  by_cases h2 : 4294967295 < s
  · exact Or.inr (Or.inl ⟨by omega, h2, hn True (by omega)⟩)
  refine Or.inr (Or.inr ⟨by omega, by omega, ?_⟩)
  cases l with
  | true =>
    by_cases h3 : c < 1
    · exact Or.inl ⟨rfl, h3, hn True (by simp; omega)⟩
    by_cases h4 : 512 < c
    · exact Or.inr (Or.inl ⟨rfl, by omega, h4, hn True (by simp; omega)⟩)
    exact Or.inr (Or.inr (Or.inl ⟨rfl, by omega, by omega, right_true (by omega) (by omega) (fun _ => ⟨by omega, by omega⟩) (fun h => by cases h)⟩))
  | false =>
    by_cases h3 : c = 0
    · by_cases h4 : m = 0
      · exact Or.inr (Or.inr (Or.inr (Or.inr (Or.inr ⟨rfl, h3, h4, right_true (by omega) (by omega) (fun h => by cases h) (fun _ => ⟨h3, h4⟩)⟩))))
      · exact Or.inr (Or.inr (Or.inr (Or.inr (Or.inl ⟨rfl, h3, h4, hn True (by simp; omega)⟩))))
    · exact Or.inr (Or.inr (Or.inr (Or.inl ⟨rfl, h3, hn True (by simp; omega)⟩)))

set_option maxRecDepth 100000 in
set_option maxHeartbeats 1000000 in
theorem right_any (h : Head) (w : World) :
    Calls Tryz.prog 100 #[headV h] w fun e w' => e = .returned (.bool (rightB h)) ∧ Below w.heap.size w w' := by
  obtain ⟨s, l, c, m⟩ := h
  have hc := right_cases s l c m
  unfold headV
  generalize rightB ⟨s, l, c, m⟩ = r at hc ⊢
  rcases hc with ⟨h1, rfl⟩ | ⟨h1, h2, rfl⟩ | ⟨h1, h2, hc⟩
  · go_enter Tryz.func100, Tryz.ntmps100
    go_wp2
    go_ret
    exact ⟨rfl, (Below.refl _ _).alloc (Nat.le_refl _) _⟩
  · go_enter Tryz.func100, Tryz.ntmps100
    go_wp2
    go_ret
    exact ⟨rfl, (Below.refl _ _).alloc (Nat.le_refl _) _⟩
  · have h3 : ¬ s < 0 := by omega
    have h4 : ¬ 4294967295 < s := by omega
    rcases hc with ⟨rfl, g1, rfl⟩ | ⟨rfl, g1, g2, rfl⟩ | ⟨rfl, g1, g2, rfl⟩ | ⟨rfl, g1, rfl⟩ | ⟨rfl, rfl, g2, rfl⟩ | ⟨rfl, rfl, rfl, rfl⟩
    · have g3 : ¬ 1 ≤ c := by omega
      go_enter Tryz.func100, Tryz.ntmps100
      go_wp2
      go_ret
      exact ⟨rfl, (Below.refl _ _).alloc (Nat.le_refl _) _⟩
    · have g3 : ¬ c ≤ 512 := by omega
      go_enter Tryz.func100, Tryz.ntmps100
      go_wp2
      go_ret
      exact ⟨ret_bool (by simp <;> omega), (Below.refl _ _).alloc (Nat.le_refl _) _⟩
    · go_enter Tryz.func100, Tryz.ntmps100
      go_wp2
      go_ret
      exact ⟨ret_bool (by simp <;> omega), (Below.refl _ _).alloc (Nat.le_refl _) _⟩
    · have g3 : (c == 0) = false := by simpa using g1
      go_enter Tryz.func100, Tryz.ntmps100
      go_wp2
      go_ret
      exact ⟨rfl, (Below.refl _ _).alloc (Nat.le_refl _) _⟩
    · have g3 : (m == 0) = false := by simpa using g2
      go_enter Tryz.func100, Tryz.ntmps100
      go_wp2
      go_ret
      exact ⟨ret_bool (by simp), (Below.refl _ _).alloc (Nat.le_refl _) _⟩
    · go_enter Tryz.func100, Tryz.ntmps100
      go_wp2
      go_ret
      exact ⟨rfl, (Below.refl _ _).alloc (Nat.le_refl _) _⟩
set_option maxRecDepth 100000 in
theorem right_yes (h : Head) (w : World) (hr : rightB h = true) :
    Calls Tryz.prog 100 #[headV h] w fun e w' => e = .returned (.bool true) ∧ Below w.heap.size w w' := hr ▸ right_any h w
set_option maxRecDepth 100000 in
theorem right_no (h : Head) (w : World) (hr : rightB h = false) :
    Calls Tryz.prog 100 #[headV h] w fun e w' => e = .returned (.bool false) ∧ Below w.heap.size w w' := hr ▸ right_any h w


/-! ### a head's page, as the calls make it -/
set_option maxRecDepth 100000 in
theorem set_chain (h : Head) : Pg.setN (Pg.setN (Pg.setN (if h.live = true then Pg.setN (Pg.setN zeros 0 4 h.seq) 4 1 1 else Pg.setN zeros 0 4 h.seq) 5 2 h.count) 7 4 h.sum) 60 4 h.seq = pageH h := by
  obtain ⟨s, l, c, m⟩ := h
  cases l <;> rfl
end Go.Proofs.YtppbiohjhnoagaaGreat

/-
  The contract of head.Encode.
-/
namespace Go.Proofs.YtppbiohjhnoagaaGreat
open Go.RowKit
open Dk (zeros zeros_length)
open Hd (Head rightB pageH)

/-- what stands in memory while a head's page is made: the head, the page that is handed back, the page so far -/
structure Enc (w0 : World) (h : Head) (C : Nat) (p : List UInt8) (W : World) : Prop where
  c0 : W.cell? ⟨w0.heap.size, 0, none⟩ = some (.int .i64 h.seq)
  c1 : W.cell? ⟨w0.heap.size, 1, none⟩ = some (.bool h.live)
  c2 : W.cell? ⟨w0.heap.size, 2, none⟩ = some (.int .i64 h.count)
  c3 : W.cell? ⟨w0.heap.size, 3, none⟩ = some (.int .u32 h.sum)
  res : PageAt W (w0.heap.size + 1) zeros
  cur : PageAt W C p
  far : w0.heap.size + 1 < C
  below : Below w0.heap.size w0 W
set_option maxRecDepth 100000 in
theorem Enc.call {w0 : World} {h : Head} {C : Nat} {p : List UInt8} {W W' : World} (k : Enc w0 h C p W) (hb : Below W.heap.size W W') : Enc w0 h C p W' := by
  have hlt := k.res.lt
  exact ⟨(hb.cell (p := ⟨w0.heap.size, 0, none⟩) (by show w0.heap.size < _; omega)).trans k.c0, (hb.cell (p := ⟨w0.heap.size, 1, none⟩) (by show w0.heap.size < _; omega)).trans k.c1,
    (hb.cell (p := ⟨w0.heap.size, 2, none⟩) (by show w0.heap.size < _; omega)).trans k.c2, (hb.cell (p := ⟨w0.heap.size, 3, none⟩) (by show w0.heap.size < _; omega)).trans k.c3,
    k.res.below hb hlt, k.cur.below hb k.cur.lt, k.far, k.below.trans (hb.mono k.below.size)⟩
set_option maxRecDepth 100000 in
theorem cell_setCells_far {W : World} (b : Nat) (a : Addr) (h : a.block ≠ b) : ∀ (vs : List Value) (o : Nat) (W : World), (W.setCells b o vs).cell? a = W.cell? a
  | [], _, _ => rfl
  | v :: r, o, W => by
    rw [World.setCells, cell_setCells_far (W := W) b a h r (o + 1)]
    exact World.cell?_setCell_other _ _ _ _ (fun e => h (by rw [← e]))
set_option maxRecDepth 100000 in
theorem Enc.store {w0 : World} {h : Head} {C : Nat} {p q : List UInt8} {W : World} (k : Enc w0 h C p W) (hq : q.length = 64) : Enc w0 h C q (W.setCells C 0 (byteVals q)) := by
  have hf := k.far
  exact ⟨(cell_setCells_far (W := W) C ⟨w0.heap.size, 0, none⟩ (by show w0.heap.size ≠ C; omega) _ _ _).trans k.c0, (cell_setCells_far (W := W) C ⟨w0.heap.size, 1, none⟩ (by show w0.heap.size ≠ C; omega) _ _ _).trans k.c1,
    (cell_setCells_far (W := W) C ⟨w0.heap.size, 2, none⟩ (by show w0.heap.size ≠ C; omega) _ _ _).trans k.c2, (cell_setCells_far (W := W) C ⟨w0.heap.size, 3, none⟩ (by show w0.heap.size ≠ C; omega) _ _ _).trans k.c3,
    k.res.put_other _ _ _ (by omega), k.cur.put _ hq, hf, below_setCells _ (by omega) _ _ _ k.below⟩

set_option maxRecDepth 100000 in
theorem enc_cells (w : World) (s : Int) (l : Bool) (c m : Int) {w1 : World} (hb : Below (w.heap.size + 2) ((w.alloc (.cells #[.int .i64 s, .bool l, .int .i64 c, .int .u32 m] 117)).alloc (.cells zeroCells 38)) w1) :
    w1.cell? ⟨w.heap.size, 0, none⟩ = some (.int .i64 s) ∧ w1.cell? ⟨w.heap.size, 1, none⟩ = some (.bool l) ∧ w1.cell? ⟨w.heap.size, 2, none⟩ = some (.int .i64 c) ∧ w1.cell? ⟨w.heap.size, 3, none⟩ = some (.int .u32 m) ∧
    PageAt w1 (w.heap.size + 1) zeros ∧ w.heap.size + 1 < w1.heap.size ∧ Below w.heap.size w w1 := by
  have hp : PageAt ((w.alloc (.cells #[.int .i64 s, .bool l, .int .i64 c, .int .u32 m] 117)).alloc (.cells zeroCells 38)) (w.heap.size + 1) zeros := by simpa using pageAt_zeros (w.alloc (.cells #[.int .i64 s, .bool l, .int .i64 c, .int .u32 m] 117)) 38
  refine ⟨?_, ?_, ?_, ?_, hp.below hb (by omega), ?_, ?_⟩
  · refine (hb.cell (p := ⟨w.heap.size, 0, none⟩) (by show w.heap.size < _; omega)).trans ?_
    simp [go_sem]
  · refine (hb.cell (p := ⟨w.heap.size, 1, none⟩) (by show w.heap.size < _; omega)).trans ?_
    simp [go_sem]
  · refine (hb.cell (p := ⟨w.heap.size, 2, none⟩) (by show w.heap.size < _; omega)).trans ?_
    simp [go_sem]
  · refine (hb.cell (p := ⟨w.heap.size, 3, none⟩) (by show w.heap.size < _; omega)).trans ?_
    simp [go_sem]
  · have := hb.size; simp at this; omega
  · exact (((Below.refl _ _).alloc (Nat.le_refl _) _).alloc (by simp) _).trans (hb.mono (by omega))

set_option maxRecDepth 100000 in
theorem results_encode (fn : Func) (hf : fn.results = #[.cell 2 38, .tmp 3]) {w : World} {b : Nat} {q : List UInt8} {v : Value} (tmps : Array Value) (h : PageAt w b q) (h2 : tmps.getD 2 undef = .pointer (some ⟨b, 0, none⟩)) (h3 : tmps.getD 3 undef = v) :
    (results fn tmps).run Tryz.prog w = .ok (.tuple #[pageV q, v]) w := by
  have hl := h.loads
  unfold results
  rw [hf]
  simp only [Array.mapM_eq_mapM_toList, List.mapM_cons, List.mapM_nil, h2, h3, asAddr, Sem.run_bind, Sem.run_pure, Result.andThen_ok, hl, Sem.run_map]
  rfl

set_option maxRecDepth 100000 in
set_option maxHeartbeats 1000000 in
theorem encode_no (h : Head) (w : World) (hr : rightB h = false) :
    Calls Tryz.prog 85 #[headV h] w fun e w' => e = .returned (.tuple #[pageV zeros, .int .i64 22]) ∧ Below w.heap.size w w' := by
  have HR := Lib.hid (fun (w : World) => right_no h w hr)
  obtain ⟨s, l, c, m⟩ := h
  clear hr
  unfold headV at HR ⊢
  go_enter Tryz.func85, Tryz.ntmps85
  go_wp2_with fail
  refine (HR.out _).mono ?_
  rintro e w1 ⟨rfl, hb⟩
  rw [← zeroCells_def] at hb
  obtain ⟨c0, c1, c2, c3, hp, hlt, hbel⟩ := enc_cells w s l c m (by simpa using hb)
  clear hb
  have HP := Lib.hid hp; clear hp
  go_wp2_with ((with_reducible refine wpList_store_page HP.out zeros_length rfl (.tmp 2) (.tmp 8) rfl ?_ ?_ ?_); (exact rfl); (exact rfl))
  exact bodyPost_ret (results_encode _ rfl _ (HP.out.put _ zeros_length) rfl rfl) rfl ⟨rfl, below_setCells _ (by omega) _ _ _ hbel⟩

set_option maxRecDepth 100000 in
set_option maxHeartbeats 4000000 in
theorem encode_yes (h : Head) (w : World) (hr : rightB h = true) (hm0 : 0 ≤ h.sum) (hm1 : h.sum < 4294967296) :
    Calls Tryz.prog 85 #[headV h] w fun e w' => e = .returned (.tuple #[pageV (pageH h), .int .i64 0]) ∧ Below w.heap.size w w' := by
  have HR := Lib.hid (fun (w : World) => right_yes h w hr)
  have HC := Lib.hid (set_chain h)
  clear hr
  generalize pageH h = Z at HC ⊢
  obtain ⟨s, l, c, m⟩ := h
  simp only at hm0 hm1 HC
  unfold headV at HR ⊢
  go_enter Tryz.func85, Tryz.ntmps85
  go_wp2_with fail
  refine (HR.out _).mono ?_
  rintro e w1 ⟨rfl, hb⟩
  rw [← zeroCells_def] at hb
  obtain ⟨c0, c1, c2, c3, hp, hlt, hbel⟩ := enc_cells w s l c m (by simpa using hb)
  clear hb
  have HP := Lib.hid hp; clear hp
  go_wp2_with fail
  rw [← zeroCells_def]
  refine (set_any zeros 0 4 s w1 zeros_length (by omega) (by omega)).mono ?_
  rintro e w2 ⟨rfl, hb2⟩
  have HL := Lib.hid (Pg.setN_length zeros 0 4 s zeros_length)
  generalize hp1 : Pg.setN zeros 0 4 s = p1 at HL HC ⊢
  clear hp1
  have HE0 : Hid (∀ W2, PageAt W2 w2.heap.size p1 → Below w2.heap.size w2 W2 → Enc w ⟨s, l, c, m⟩ w2.heap.size p1 W2) := Lib.hid (fun W2 hP hB => by
    have hbb := hb2.trans (hB.mono hb2.size)
    have hz := hb2.size
    exact ⟨(hbb.cell (p := ⟨w.heap.size, 0, none⟩) (by show w.heap.size < _; omega)).trans c0, (hbb.cell (p := ⟨w.heap.size, 1, none⟩) (by show w.heap.size < _; omega)).trans c1,
      (hbb.cell (p := ⟨w.heap.size, 2, none⟩) (by show w.heap.size < _; omega)).trans c2, (hbb.cell (p := ⟨w.heap.size, 3, none⟩) (by show w.heap.size < _; omega)).trans c3,
      HP.out.below hbb hlt, hP, by omega, hbel.trans (hbb.mono hbel.size)⟩)
  clear HP hb2 hbel c0 c1 c2 c3 hlt
  cases l
  all_goals
    go_wp2_with (first
      | ((with_reducible refine wpList_store_new rfl (.tmp 4) (.tmp 12) rfl rfl ?_ ?_ HL.out ?_); (exact rfl); (exact rfl); intro W2 hP hB2 hz2; have E1 := Lib.hid (HE0.out W2 hP hB2); clear HE0 hP hB2 hz2; generalize w2.heap.size = C at E1 ⊢; have d1 := E1.out.c1; have d2 := E1.out.c2)
      | ((with_reducible refine wpList_load_page E1.out.cur rfl (.tmp 4) rfl rfl ?_)))
  · simp only [Bool.false_eq_true, if_false] at HC
    clear d1 d2
    refine (set_any p1 5 2 c _ HL.out (by omega) (by omega)).mono ?_
    rintro e w5 ⟨rfl, hb5⟩
    have E3 := Lib.hid (E1.out.call hb5)
    have HM := Lib.hid (Pg.setN_length p1 5 2 c HL.out)
    generalize Pg.setN p1 5 2 c = p3 at HM HC ⊢
    clear hb5 E1
    go_wp2_with (first
      | ((with_reducible refine wpList_store_page E3.out.cur HM.out rfl (.tmp 4) (.tmp 20) rfl rfl rfl ?_); have E4 := Lib.hid (E3.out.store HM.out); clear E3; generalize w5.setCells C 0 (byteVals p3) = W5 at E4 ⊢; have d3 := E4.out.c3)
      | ((with_reducible refine wpList_load_page E4.out.cur rfl (.tmp 4) rfl rfl ?_)))
    clear d3
    refine (set_any p3 7 4 m _ HM.out (by omega) (by omega)).mono ?_
    rintro e w6 ⟨rfl, hb6⟩
    have E5 := Lib.hid (E4.out.call hb6)
    have HK := Lib.hid (Pg.setN_length p3 7 4 m HM.out)
    generalize Pg.setN p3 7 4 m = p4 at HK HC ⊢
    clear hb6 E4
    go_wp2_with (first
      | ((with_reducible refine wpList_store_page E5.out.cur HK.out rfl (.tmp 4) (.tmp 25) rfl rfl rfl ?_); have E6 := Lib.hid (E5.out.store HK.out); clear E5; generalize w6.setCells C 0 (byteVals p4) = W6 at E6 ⊢; have d0 := E6.out.c0)
      | ((with_reducible refine wpList_load_page E6.out.cur rfl (.tmp 4) rfl rfl ?_)))
    clear d0
    refine (set_any p4 60 4 s _ HK.out (by omega) (by omega)).mono ?_
    rintro e w7 ⟨rfl, hb7⟩
    have E7 := Lib.hid (E6.out.call hb7)
    have HJ := Lib.hid (Pg.setN_length p4 60 4 s HK.out)
    generalize Pg.setN p4 60 4 s = p5 at HJ HC ⊢
    clear hb7 E6
    go_wp2_with ((with_reducible refine wpList_store_page E7.out.res HJ.out rfl (.tmp 2) (.tmp 29) rfl rfl rfl ?_))
    exact bodyPost_ret (results_encode _ rfl _ (E7.out.res.put _ HJ.out) rfl rfl) rfl ⟨by rw [HC.out]; rfl, below_setCells _ (by omega) _ _ _ E7.out.below⟩
  · simp only [if_true] at HC
    clear d1 d2
    refine (set_any p1 4 1 1 _ HL.out (by omega) (by omega)).mono ?_
    rintro e w4 ⟨rfl, hb4⟩
    have E2 := Lib.hid (E1.out.call hb4)
    have HN := Lib.hid (Pg.setN_length p1 4 1 1 HL.out)
    generalize Pg.setN p1 4 1 1 = p2 at HN HC ⊢
    clear hb4 E1
    go_wp2_with (first
      | ((with_reducible refine wpList_store_page E2.out.cur HN.out rfl (.tmp 4) (.tmp 16) rfl rfl rfl ?_); have E9 := Lib.hid (E2.out.store HN.out); clear E2; generalize w4.setCells C 0 (byteVals p2) = W4 at E9 ⊢; have d1 := E9.out.c1; have d2 := E9.out.c2)
      | ((with_reducible refine wpList_load_page E9.out.cur rfl (.tmp 4) rfl rfl ?_)))
    clear d1 d2
    refine (set_any p2 5 2 c _ HN.out (by omega) (by omega)).mono ?_
    rintro e w5 ⟨rfl, hb5⟩
    have E3 := Lib.hid (E9.out.call hb5)
    have HM := Lib.hid (Pg.setN_length p2 5 2 c HN.out)
    generalize Pg.setN p2 5 2 c = p3 at HM HC ⊢
    clear hb5 E9
    go_wp2_with (first
      | ((with_reducible refine wpList_store_page E3.out.cur HM.out rfl (.tmp 4) (.tmp 20) rfl rfl rfl ?_); have E4 := Lib.hid (E3.out.store HM.out); clear E3; generalize w5.setCells C 0 (byteVals p3) = W5 at E4 ⊢; have d3 := E4.out.c3)
      | ((with_reducible refine wpList_load_page E4.out.cur rfl (.tmp 4) rfl rfl ?_)))
    clear d3
    refine (set_any p3 7 4 m _ HM.out (by omega) (by omega)).mono ?_
    rintro e w6 ⟨rfl, hb6⟩
    have E5 := Lib.hid (E4.out.call hb6)
    have HK := Lib.hid (Pg.setN_length p3 7 4 m HM.out)
    generalize Pg.setN p3 7 4 m = p4 at HK HC ⊢
    clear hb6 E4
    go_wp2_with (first
      | ((with_reducible refine wpList_store_page E5.out.cur HK.out rfl (.tmp 4) (.tmp 25) rfl rfl rfl ?_); have E6 := Lib.hid (E5.out.store HK.out); clear E5; generalize w6.setCells C 0 (byteVals p4) = W6 at E6 ⊢; have d0 := E6.out.c0)
      | ((with_reducible refine wpList_load_page E6.out.cur rfl (.tmp 4) rfl rfl ?_)))
    clear d0
    refine (set_any p4 60 4 s _ HK.out (by omega) (by omega)).mono ?_
    rintro e w7 ⟨rfl, hb7⟩
    have E7 := Lib.hid (E6.out.call hb7)
    have HJ := Lib.hid (Pg.setN_length p4 60 4 s HK.out)
    generalize Pg.setN p4 60 4 s = p5 at HJ HC ⊢
    clear hb7 E6
    go_wp2_with ((with_reducible refine wpList_store_page E7.out.res HJ.out rfl (.tmp 2) (.tmp 29) rfl rfl rfl ?_))
    exact bodyPost_ret (results_encode _ rfl _ (E7.out.res.put _ HJ.out) rfl rfl) rfl ⟨by rw [HC.out]; rfl, below_setCells _ (by omega) _ _ _ E7.out.below⟩
end Go.Proofs.YtppbiohjhnoagaaGreat

/-
  Heads in memory: a row of cells in a block of its own, loaded and stored whole; the same in a region that draws its order.
-/
namespace Go.Proofs.YtppbiohjhnoagaaGreat
open Go.RowKit
open Dk (zeros zeros_length)
open Hd (Head rightB pageH)

/-- a row of cells in a block of its own, that may be written -/
structure RowAt (w : World) (b : Nat) (vs : List Value) : Prop where
  range : w.rangeAt b 0 vs
  free : w.there b 0 vs.length
set_option maxRecDepth 100000 in
theorem RowAt.cell {w : World} {b : Nat} {vs : List Value} (h : RowAt w b vs) (j : Nat) (v : Value) (hv : vs[j]? = some v) : w.cell? ⟨b, j, none⟩ = some v := by
  have := h.range j v hv
  rwa [Nat.zero_add] at this
set_option maxRecDepth 100000 in
theorem RowAt.lt {w : World} {b : Nat} {v : Value} {vs : List Value} (h : RowAt w b (v :: vs)) : b < w.heap.size := World.block_lt_of_cell? w _ (h.cell 0 v rfl)
set_option maxRecDepth 100000 in
theorem rowAt_new (w : World) (vs : List Value) (t : TypeId) : RowAt (w.alloc (.cells vs.toArray t)) w.heap.size vs where
  range := fun j v hv => by
    rw [Nat.zero_add, World.cell?_alloc_mark]
    simpa using hv
  free := there_new w _ t _ (by rw [List.size_toArray]; exact Nat.le_refl _)
set_option maxRecDepth 100000 in
theorem RowAt.alloc {w : World} {b : Nat} {vs : List Value} (h : RowAt w b vs) (o : Obj) : RowAt (w.alloc o) b vs := ⟨World.rangeAt_alloc h.range o, World.there_alloc h.free o⟩
set_option maxRecDepth 100000 in
theorem RowAt.drew {w : World} {b : Nat} {vs : List Value} (h : RowAt w b vs) : RowAt w.drew b vs := ⟨(World.rangeAt_drew ..).2 h.range, (World.there_drew ..).2 h.free⟩
set_option maxRecDepth 100000 in
theorem RowAt.below {n : Nat} {w w' : World} {b : Nat} {vs : List Value} (h : RowAt w b vs) (hb : Below n w w') (hn : b < n) : RowAt w' b vs where
  range := fun j v hv => (hb.cell (p := ⟨b, 0 + j, none⟩) hn).trans (h.range j v hv)
  free := fun j hj => by
    rw [hb.cell (p := ⟨b, 0 + j, none⟩) hn, hb.frozen (p := ⟨b, 0 + j, none⟩) hn]
    exact h.free j hj
set_option maxRecDepth 100000 in
theorem RowAt.put {w : World} {b : Nat} {vs : List Value} (h : RowAt w b vs) (us : List Value) (hl : us.length = vs.length) : RowAt (w.setCells b 0 us) b us where
  range := World.rangeAt_setCells_same _ _ _ _ (by rw [hl]; exact h.free)
  free := World.there_setCells (by rw [hl]; exact h.free) _ _ _
set_option maxRecDepth 100000 in
theorem RowAt.put_other {w : World} {b : Nat} {vs : List Value} (h : RowAt w b vs) (b' o : Nat) (us : List Value) (hb : b ≠ b') : RowAt (w.setCells b' o us) b vs where
  range := World.rangeAt_setCells_apart h.range _ _ _ (Or.inl hb)
  free := World.there_setCells h.free _ _ _

/-! ### heads -/
def headVals (h : Head) : List Value := [.int .i64 h.seq, .bool h.live, .int .i64 h.count, .int .u32 h.sum]
set_option maxRecDepth 100000 in
theorem headV_def (h : Head) : Value.agg (headVals h).toArray = headV h := rfl
set_option maxRecDepth 100000 in
theorem headVals_one (h : Head) : ∀ v ∈ headVals h, v.oneCell' = true := by
  intro v hv
  simp only [headVals, List.mem_cons, List.not_mem_nil, or_false] at hv
  rcases hv with rfl | rfl | rfl | rfl <;> rfl
/-- a head in a block of its own -/
def HeadAt (w : World) (b : Nat) (h : Head) : Prop := RowAt w b (headVals h)
set_option maxRecDepth 100000 in
theorem HeadAt.c0 {w : World} {b : Nat} {h : Head} (k : HeadAt w b h) : w.cell? ⟨b, 0, none⟩ = some (.int .i64 h.seq) := RowAt.cell k 0 _ rfl
set_option maxRecDepth 100000 in
theorem HeadAt.c1 {w : World} {b : Nat} {h : Head} (k : HeadAt w b h) : w.cell? ⟨b, 1, none⟩ = some (.bool h.live) := RowAt.cell k 1 _ rfl
set_option maxRecDepth 100000 in
theorem HeadAt.c2 {w : World} {b : Nat} {h : Head} (k : HeadAt w b h) : w.cell? ⟨b, 2, none⟩ = some (.int .i64 h.count) := RowAt.cell k 2 _ rfl
set_option maxRecDepth 100000 in
theorem HeadAt.c3 {w : World} {b : Nat} {h : Head} (k : HeadAt w b h) : w.cell? ⟨b, 3, none⟩ = some (.int .u32 h.sum) := RowAt.cell k 3 _ rfl
set_option maxRecDepth 100000 in
theorem HeadAt.lt {w : World} {b : Nat} {h : Head} (k : HeadAt w b h) : b < w.heap.size := RowAt.lt k
set_option maxRecDepth 100000 in
theorem HeadAt.alloc {w : World} {b : Nat} {h : Head} (k : HeadAt w b h) (o : Obj) : HeadAt (w.alloc o) b h := RowAt.alloc k o
set_option maxRecDepth 100000 in
theorem HeadAt.drew {w : World} {b : Nat} {h : Head} (k : HeadAt w b h) : HeadAt w.drew b h := RowAt.drew k
set_option maxRecDepth 100000 in
theorem HeadAt.below {n : Nat} {w w' : World} {b : Nat} {h : Head} (k : HeadAt w b h) (hb : Below n w w') (hn : b < n) : HeadAt w' b h := RowAt.below k hb hn
set_option maxRecDepth 100000 in
theorem HeadAt.put {w : World} {b : Nat} {h : Head} (k : HeadAt w b h) (g : Head) : HeadAt (w.setCells b 0 (headVals g)) b g := RowAt.put k _ rfl
set_option maxRecDepth 100000 in
theorem HeadAt.put_other {w : World} {b : Nat} {h : Head} (k : HeadAt w b h) (b' o : Nat) (us : List Value) (hb : b ≠ b') : HeadAt (w.setCells b' o us) b h := RowAt.put_other k b' o us hb
set_option maxRecDepth 100000 in
theorem headAt_new (w : World) (h : Head) (t : TypeId) : HeadAt (w.alloc (.cells (headVals h).toArray t)) w.heap.size h := rowAt_new w _ t

/-- a head's type: its cells -/
structure HeadT (t : TypeId) : Prop where
  row : ∃ d, Tryz.prog.underlying t = some d ∧ d.isRow = true
  info : (Tryz.prog.info? t).map (·.size) = some 4
set_option maxRecDepth 100000 in
theorem headT : HeadT 117 := ⟨⟨_, Tryz.underlying117, rfl⟩, by kernel_rfl⟩

set_option maxRecDepth 100000 in
theorem HeadAt.loads {t : TypeId} (ht : HeadT t) {w : World} {b : Nat} {h : Head} (k : HeadAt w b h) : (loadVar t ⟨b, 0, none⟩).run Tryz.prog w = .ok (headV h) w := by
  obtain ⟨d, hd, hr⟩ := ht.row
  exact run_loadVar_mid (P := Tryz.prog) w b 0 t (headVals h) d k.range hd hr ht.info
set_option maxRecDepth 100000 in
theorem wpList_load_head {t : TypeId} (ht : HeadT t) {ops : Array Oper} {rest : List Oper} {op : Oper} {a : Act} {Q : Exit → Act → World → Prop} {w : World} {b : Nat} {h : Head} (k : HeadAt w b h) (hgd : op.guard = none) (x : Operand) (ho : op.op = .load t x)
    (hx : a.eval x = .pointer (some ⟨b, 0, none⟩)) (hn : wpList Tryz.prog ops Q rest (a.put op.dst (headV h)) w) : wpList Tryz.prog ops Q (op :: rest) a w := by
  obtain ⟨d, hd, hr⟩ := ht.row
  exact wpList_load_mid hgd t x ho b 0 hx (headVals h) d k.range hd hr ht.info hn
set_option maxRecDepth 100000 in
theorem wpList_store_head {t : TypeId} (ht : HeadT t) {ops : Array Oper} {rest : List Oper} {op : Oper} {a : Act} {Q : Exit → Act → World → Prop} {w : World} {b : Nat} {g h : Head} (k : HeadAt w b g) (hgd : op.guard = none) (x y : Operand) (ho : op.op = .store t x y)
    (hx : a.eval x = .pointer (some ⟨b, 0, none⟩)) (hy : a.eval y = headV h) (hn : wpList Tryz.prog ops Q rest (a.put op.dst undef) (w.setCells b 0 (headVals h))) : wpList Tryz.prog ops Q (op :: rest) a w :=
  wpList_store_mid hgd t x y ho b 0 (headVals h).toArray hx hy k.free ht.info (all_oneCell_toArray (headVals_one h)) (by simpa using hn)
set_option maxRecDepth 100000 in
theorem wpList_store_newhead {t : TypeId} (ht : HeadT t) {ops : Array Oper} {rest : List Oper} {op : Oper} {a : Act} {Q : Exit → Act → World → Prop} {w : World} {Z : Array Value} {u : TypeId} {h : Head} (hgd : op.guard = none) (x y : Operand) (ho : op.op = .store t x y)
    (hx : a.eval x = .pointer (some ⟨w.heap.size, 0, none⟩)) (hy : a.eval y = headV h) (hZ : Z.size = 4)
    (hn : ∀ W2, HeadAt W2 w.heap.size h → Below w.heap.size w W2 → W2.heap.size = w.heap.size + 1 → wpList Tryz.prog ops Q rest (a.put op.dst undef) W2) :
    wpList Tryz.prog ops Q (op :: rest) a (w.alloc (.cells Z u)) := by
  have hth : (w.alloc (.cells Z u)).there w.heap.size 0 4 := there_new w Z u _ (by omega)
  refine wpList_store_mid hgd t x y ho w.heap.size 0 (headVals h).toArray hx hy hth ht.info (all_oneCell_toArray (headVals_one h)) (hn _ ?_ ?_ ?_)
  · exact ⟨World.rangeAt_setCells_same _ _ _ _ hth, World.there_setCells hth _ _ _⟩
  · exact below_setCells _ (Nat.le_refl _) _ _ _ ((Below.refl _ _).alloc (Nat.le_refl _) _)
  · rw [heap_setCells]; simp
set_option maxRecDepth 100000 in
/-- a head that is handed back -/
theorem results_head {t : TypeId} (ht : HeadT t) (fn : Func) (s : Nat) (hf : fn.results = #[.cell s t]) {w : World} {b : Nat} {h : Head} (tmps : Array Value) (k : HeadAt w b h) (hs : tmps.getD s undef = .pointer (some ⟨b, 0, none⟩)) :
    (results fn tmps).run Tryz.prog w = .ok (headV h) w := by
  have hl := k.loads ht
  unfold results
  rw [hf]
  simp only [Array.mapM_eq_mapM_toList, List.mapM_cons, List.mapM_nil, hs, asAddr, Sem.run_bind, Sem.run_pure, Result.andThen_ok, hl, Sem.run_map]
  rfl
set_option maxRecDepth 100000 in
theorem results_head2 {t : TypeId} (ht : HeadT t) (fn : Func) (s r : Nat) (hf : fn.results = #[.cell s t, .tmp r]) {w : World} {b : Nat} {h : Head} {v : Value} (tmps : Array Value) (k : HeadAt w b h) (hs : tmps.getD s undef = .pointer (some ⟨b, 0, none⟩)) (hr : tmps.getD r undef = v) :
    (results fn tmps).run Tryz.prog w = .ok (.tuple #[headV h, v]) w := by
  have hl := k.loads ht
  unfold results
  rw [hf]
  simp only [Array.mapM_eq_mapM_toList, List.mapM_cons, List.mapM_nil, hs, hr, asAddr, Sem.run_bind, Sem.run_pure, Result.andThen_ok, hl, Sem.run_map]
  rfl

/-! ### in a region that draws its order -/
section
variable {ops : Array Oper} {σ : Type} {S : σ → World → Prop}
set_option maxRecDepth 100000 in
theorem ord_page {o : Oper} {a : Act} {b : Nat} {p : List UInt8} (hw : Region.wanted o (yielded ops a.tmps) = true) (x : Operand) (ho : o.op = .load 38 x) (hx : a.eval x = .pointer (some ⟨b, 0, none⟩)) (hS : ∀ s w, S s w → PageAt w b p) :
    OrdAt Tryz.prog ops S o (pageV p) a :=
  ord_value hw fun s w hs => by
    unfold execOp
    have := (hS s w hs).loads
    simp only [ho, hx, Instr.loadAt, Instr.sureAddr, Sem.run_bind, Sem.run_pure, Result.andThen_ok, this]
set_option maxRecDepth 100000 in
theorem ord_head {t : TypeId} (ht : HeadT t) {o : Oper} {a : Act} {b : Nat} {h : Head} (hw : Region.wanted o (yielded ops a.tmps) = true) (x : Operand) (ho : o.op = .load t x) (hx : a.eval x = .pointer (some ⟨b, 0, none⟩)) (hS : ∀ s w, S s w → HeadAt w b h) :
    OrdAt Tryz.prog ops S o (headV h) a :=
  ord_value hw fun s w hs => by
    unfold execOp
    have := (hS s w hs).loads ht
    simp only [ho, hx, Instr.loadAt, Instr.sureAddr, Sem.run_bind, Sem.run_pure, Result.andThen_ok, this]
set_option maxRecDepth 100000 in
theorem gives_store_head {t : TypeId} (ht : HeadT t) {o : Oper} {a : Act} {w : World} {b : Nat} {g h : Head} {R : Value → World → Prop} (k : HeadAt w b g) (x y : Operand) (ho : o.op = .store t x y) (hx : a.eval x = .pointer (some ⟨b, 0, none⟩)) (hy : a.eval y = headV h)
    (hR : R undef (w.setCells b 0 (headVals h))) : Gives Tryz.prog (execOp a.eval o) w R := by
  have hs := run_storeVar_mid (P := Tryz.prog) w b 0 t (headVals h).toArray k.free ht.info (all_oneCell_toArray (headVals_one h))
  rw [headV_def] at hs
  have hrun : (execOp a.eval o).run Tryz.prog w = .ok .skip (w.setCells b 0 (headVals h)) ∨ (execOp a.eval o).run Tryz.prog w = .ok (.value undef) (w.setCells b 0 (headVals h)) := by
    unfold execOp
    simp only [ho, hx, hy, Instr.storeAt, Instr.sureAddr, Sem.run_bind, Sem.run_pure, Result.andThen_ok, hs]
    simp
  unfold Gives
  rcases hrun with h | h <;> (rw [h]; exact hR)
end
end Go.Proofs.YtppbiohjhnoagaaGreat
