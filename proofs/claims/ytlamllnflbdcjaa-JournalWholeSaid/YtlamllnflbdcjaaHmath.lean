/-
  Plain mathematics of heads and their pages. Nothing of the program is in it.
-/
import Derived.Test.YtlamllnflbdcjaaPmath
namespace Go.Proofs.Ytlamllnflbdcjaa.Hd
open Go.Proofs.Ytlamllnflbdcjaa.Pg

/-- a head -/
structure Head where
  seq : Int
  live : Bool
  count : Int
  sum : Int
deriving DecidableEq

def zero : Head := ⟨0, false, 0, 0⟩
/-- is it right? -/
def rightB (h : Head) : Bool := decide (0 ≤ h.seq ∧ h.seq < 4294967296 ∧ (h.live = true → 1 ≤ h.count ∧ h.count ≤ 512) ∧ (h.live = false → h.count = 0 ∧ h.sum = 0))
theorem right_yes {h : Head} (hr : rightB h = true) : 0 ≤ h.seq ∧ h.seq < 4294967296 ∧ (h.live = true → 1 ≤ h.count ∧ h.count ≤ 512) ∧ (h.live = false → h.count = 0 ∧ h.sum = 0) := of_decide_eq_true hr

def flag (l : Bool) : UInt8 := if l = true then 1 else 0
/-- a head's page, part by part -/
def parts (a : List UInt8) (b : UInt8) (c d z e : List UInt8) : List UInt8 := a ++ (b :: (c ++ (d ++ (z ++ e))))
def nils : List UInt8 := List.replicate 49 0
def pageH (h : Head) : List UInt8 := parts (bytesN 4 h.seq) (flag h.live) (bytesN 2 h.count) (bytesN 4 h.sum) nils (bytesN 4 h.seq)
def zeros : List UInt8 := List.replicate 64 0
theorem nils_length : nils.length = 49 := List.length_replicate
theorem parts_length {a c d z e : List UInt8} {b : UInt8} (ha : a.length = 4) (hc : c.length = 2) (hd : d.length = 4) (hz : z.length = 49) (he : e.length = 4) : (parts a b c d z e).length = 64 := by
  unfold parts; simp [ha, hc, hd, hz, he]
theorem pageH_length (h : Head) : (pageH h).length = 64 := parts_length (bytesN_length 4 _) (bytesN_length 2 _) (bytesN_length 4 _) nils_length (bytesN_length 4 _)

/-- any page, part by part -/
theorem parts_of (p : List UInt8) (hp : p.length = 64) : ∃ a b c d z e, a.length = 4 ∧ c.length = 2 ∧ d.length = 4 ∧ z.length = 49 ∧ e.length = 4 ∧ p = parts a b c d z e := by
  have h4 : 4 < p.length := by omega
  refine ⟨p.take 4, p[4], (p.drop 5).take 2, (p.drop 7).take 4, (p.drop 11).take 49, p.drop 60, by simp; omega, by simp; omega, by simp; omega, by simp; omega, by simp; omega, ?_⟩
  unfold parts
  have e3 : (p.drop 11).take 49 ++ p.drop 60 = p.drop 11 := by
    have := List.take_append_drop 49 (p.drop 11); rwa [List.drop_drop] at this
  have e2 : (p.drop 7).take 4 ++ p.drop 11 = p.drop 7 := by
    have := List.take_append_drop 4 (p.drop 7); rwa [List.drop_drop] at this
  have e1 : (p.drop 5).take 2 ++ p.drop 7 = p.drop 5 := by
    have := List.take_append_drop 2 (p.drop 5); rwa [List.drop_drop] at this
  rw [e3, e2, e1, ← List.drop_eq_getElem_cons h4, List.take_append_drop]
theorem parts_inj {a c d z e a' c' d' z' e' : List UInt8} {b b' : UInt8} (ha : a.length = a'.length) (hc : c.length = c'.length) (hd : d.length = d'.length) (hz : z.length = z'.length) (h : parts a b c d z e = parts a' b' c' d' z' e') :
    a = a' ∧ b = b' ∧ c = c' ∧ d = d' ∧ z = z' ∧ e = e' := by
  unfold parts at h
  obtain ⟨h1, h⟩ := List.append_inj h ha
  injection h with h2 h
  obtain ⟨h3, h⟩ := List.append_inj h hc
  obtain ⟨h4, h⟩ := List.append_inj h hd
  obtain ⟨h5, h6⟩ := List.append_inj h hz
  exact ⟨h1, h2, h3, h4, h5, h6⟩

/-! ### numbers and their bytes -/
theorem byteAt_add (k : Nat) (x m : Int) (hm : 256 ^ k * 256 ∣ m) : byteAt k (x + m) = byteAt k x := by
  unfold byteAt
  obtain ⟨q, rfl⟩ := hm
  have e : (x + 256 ^ k * 256 * q) / 256 ^ k = x / 256 ^ k + 256 * q := by
    rw [Int.mul_assoc, Int.add_mul_ediv_left _ _ (Int.ne_of_gt (Int.pow_pos (by omega)))]
  rw [e, Int.add_mul_emod_self_left]
theorem bytesN_add (k : Nat) (x m : Int) (hm : 256 ^ k ∣ m) : bytesN k (x + m) = bytesN k x := by
  induction k with
  | zero => rfl
  | succ k ih =>
    rw [bytesN, bytesN, byteAt_add k x m (by rw [← Int.pow_succ]; exact hm), ih (Int.dvd_trans ⟨256, Int.pow_succ ..⟩ hm)]
theorem bytes_num (l : List UInt8) : bytesN l.length (numOf l) = l := by
  induction l with
  | nil => rfl
  | cons c l ih =>
    obtain ⟨h0, h1⟩ := numOf_bd l
    rw [List.length_cons, bytesN]
    have e1 : byteAt l.length (numOf (c :: l)) = c := by
      unfold byteAt
      have hc := c.toNat_lt
      rw [numOf_cons, Int.add_comm, Int.mul_comm, Int.add_mul_ediv_left _ _ (Int.ne_of_gt (Int.pow_pos (by omega))), Int.ediv_eq_zero_of_lt h0 h1, Int.zero_add, Int.emod_eq_of_lt (by omega) (by omega), Int.toNat_natCast]
      exact UInt8.ofNat_toNat
    rw [e1, numOf_cons, Int.add_comm, bytesN_add _ _ _ ⟨(c.toNat : Int), Int.mul_comm ..⟩, ih]
theorem num_inj {a b : List UInt8} (hl : a.length = b.length) (h : numOf a = numOf b) : a = b := by
  rw [← bytes_num a, ← bytes_num b, h, hl]
theorem bytes4_inj {x y : Int} (hx : 0 ≤ x) (hx' : x < 4294967296) (hy : 0 ≤ y) (hy' : y < 4294967296) (h : bytesN 4 x = bytesN 4 y) : x = y := by
  have := congrArg numOf h
  rw [numOf_bytesN, numOf_bytesN] at this
  have e : (256 : Int) ^ 4 = 4294967296 := rfl
  rw [e] at this
  omega

/-! ### what stands in a page -/
def readH (p : List UInt8) : Head := ⟨getN p 0 4, getN p 4 1 == 1, getN p 5 2, getN p 7 4⟩
theorem get_seq {a c d z e : List UInt8} {b : UInt8} (ha : a.length = 4) : getN (parts a b c d z e) 0 4 = numOf a := by
  unfold getN
  rw [if_pos (by decide)]
  congr 1
  show (List.drop 0 _).take 4 = a
  rw [List.drop_zero]
  unfold parts
  rw [List.take_append_of_le_length (by omega), List.take_of_length_le (by omega)]
theorem drop_at {α : Type} (a b : List α) (n : Nat) (h : a.length = n) : (a ++ b).drop n = b := by rw [← h]; exact List.drop_left
theorem get_live {a c d z e : List UInt8} {b : UInt8} (ha : a.length = 4) : getN (parts a b c d z e) 4 1 = (b.toNat : Int) := by
  unfold getN
  rw [if_pos (by decide)]
  show numOf ((List.drop 4 _).take 1) = _
  unfold parts
  rw [drop_at _ _ 4 ha]
  show numOf [b] = _
  rw [numOf_cons, numOf_nil]
  simp
theorem get_count {a c d z e : List UInt8} {b : UInt8} (ha : a.length = 4) (hc : c.length = 2) : getN (parts a b c d z e) 5 2 = numOf c := by
  unfold getN
  rw [if_pos (by decide)]
  congr 1
  show (List.drop 5 _).take 2 = c
  unfold parts
  rw [show (5 : Nat) = 4 + 1 from rfl, ← List.drop_drop, drop_at _ _ 4 ha]
  show (c ++ _).take 2 = c
  rw [List.take_append_of_le_length (by omega), List.take_of_length_le (by omega)]
theorem get_sum {a c d z e : List UInt8} {b : UInt8} (ha : a.length = 4) (hc : c.length = 2) (hd : d.length = 4) : getN (parts a b c d z e) 7 4 = numOf d := by
  unfold getN
  rw [if_pos (by decide)]
  congr 1
  show (List.drop 7 _).take 4 = d
  unfold parts
  rw [show (7 : Nat) = 4 + (1 + 2) from rfl, ← List.drop_drop, drop_at _ _ 4 ha, ← List.drop_drop]
  show ((c ++ _).drop 2).take 4 = d
  rw [drop_at _ _ 2 hc, List.take_append_of_le_length (by omega), List.take_of_length_le (by omega)]
theorem get_again {a c d z e : List UInt8} {b : UInt8} (ha : a.length = 4) (hc : c.length = 2) (hd : d.length = 4) (hz : z.length = 49) (he : e.length = 4) : getN (parts a b c d z e) 60 4 = numOf e := by
  unfold getN
  rw [if_pos (by decide)]
  congr 1
  show (List.drop 60 _).take 4 = e
  unfold parts
  rw [show (60 : Nat) = 4 + (1 + (2 + (4 + 49))) from rfl, ← List.drop_drop, drop_at _ _ 4 ha, ← List.drop_drop]
  show ((c ++ _).drop (2 + (4 + 49))).take 4 = e
  rw [← List.drop_drop, drop_at _ _ 2 hc, ← List.drop_drop, drop_at _ _ 4 hd, drop_at _ _ 49 hz, List.take_of_length_le (by omega)]
theorem read_parts {a c d z e : List UInt8} {b : UInt8} (ha : a.length = 4) (hc : c.length = 2) (hd : d.length = 4) : readH (parts a b c d z e) = ⟨numOf a, ((b.toNat : Int) == 1), numOf c, numOf d⟩ := by
  unfold readH
  rw [get_seq ha, get_live ha, get_count ha hc, get_sum ha hc hd]
theorem read_bd (p : List UInt8) (hp : p.length = 64) : 0 ≤ (readH p).seq ∧ (readH p).seq < 4294967296 ∧ 0 ≤ (readH p).count ∧ (readH p).count < 65536 ∧ 0 ≤ (readH p).sum ∧ (readH p).sum < 4294967296 := by
  obtain ⟨a, b, c, d, z, e, ha, hc, hd, _, _, rfl⟩ := parts_of p hp
  rw [read_parts ha hc hd]
  have h1 := numOf_bd a
  have h2 := numOf_bd c
  have h3 := numOf_bd d
  rw [ha] at h1
  rw [hc] at h2
  rw [hd] at h3
  simp only
  omega
theorem get_bd (p : List UInt8) (hp : p.length = 64) : 0 ≤ getN p 0 4 ∧ getN p 0 4 < 4294967296 ∧ 0 ≤ getN p 60 4 ∧ getN p 60 4 < 4294967296 := by
  obtain ⟨a, b, c, d, z, e, ha, hc, hd, hz, he, rfl⟩ := parts_of p hp
  rw [get_seq ha, get_again ha hc hd hz he]
  have h1 := numOf_four a (by omega)
  have h2 := numOf_four e (by omega)
  omega
/-- a right head comes back from its page -/
theorem read_page (h : Head) (hr : rightB h = true) (h0 : 0 ≤ h.sum) (h1 : h.sum < 4294967296) : readH (pageH h) = h := by
  obtain ⟨r1, r2, r3, r4⟩ := right_yes hr
  unfold pageH
  rw [read_parts (bytesN_length 4 _) (bytesN_length 2 _) (bytesN_length 4 _), numOf_bytesN, numOf_bytesN, numOf_bytesN]
  have e4 : (256 : Int) ^ 4 = 4294967296 := rfl
  have e2 : (256 : Int) ^ 2 = 65536 := rfl
  rw [e4, e2]
  obtain ⟨s, l, c, m⟩ := h
  simp only at *
  cases l with
  | true =>
    have := r3 rfl
    congr 1 <;> omega
  | false =>
    have := r4 rfl
    congr 1 <;> omega

/-! ### whole pages -/
/-- is a page whole? -/
def wholeB (p : List UInt8) : Bool := rightB (readH p) && decide (pageH (readH p) = p)
/-- the head that is told of a page -/
def decH (p : List UInt8) : Head := if wholeB p = true then readH p else zero
theorem whole_yes {p : List UInt8} (h : wholeB p = true) : rightB (readH p) = true ∧ pageH (readH p) = p := by
  unfold wholeB at h
  rw [Bool.and_eq_true] at h
  exact ⟨h.1, of_decide_eq_true h.2⟩
theorem whole_page (h : Head) (hr : rightB h = true) (h0 : 0 ≤ h.sum) (h1 : h.sum < 4294967296) : wholeB (pageH h) = true := by
  unfold wholeB
  rw [read_page h hr h0 h1, hr]
  simp
/-- the document's own way: both ends alike, a flag, nothing in the midst -/
theorem page_parts {a c d z e : List UInt8} {b : UInt8} (ha : a.length = 4) (hc : c.length = 2) (hd : d.length = 4) (hz : z.length = 49) : pageH (readH (parts a b c d z e)) = parts a b c d z e ↔ (b.toNat ≤ 1 ∧ z = nils ∧ a = e) := by
  rw [read_parts ha hc hd]
  unfold pageH
  have hb4 : bytesN 4 (numOf a) = a := by have := bytes_num a; rwa [ha] at this
  have hb2 : bytesN 2 (numOf c) = c := by have := bytes_num c; rwa [hc] at this
  have hd4 : bytesN 4 (numOf d) = d := by have := bytes_num d; rwa [hd] at this
  rw [hb4, hb2, hd4]
  constructor
  · intro h
    obtain ⟨_, h2, _, _, h5, h6⟩ := parts_inj rfl rfl rfl (by rw [nils_length, hz]) h
    refine ⟨?_, h5.symm, h6⟩
    rw [← h2]
    unfold flag
    split <;> decide
  · rintro ⟨h1, rfl, rfl⟩
    congr 1
    have : b.toNat = 0 ∨ b.toNat = 1 := by omega
    unfold flag
    rcases this with h | h
    · rw [h]; exact (UInt8.toNat_inj.1 (by rw [h]; rfl)).symm
    · rw [h]; exact (UInt8.toNat_inj.1 (by rw [h]; rfl)).symm
def endsB (p : List UInt8) : Bool := getN p 0 4 == getN p 60 4
theorem parts_at {a c d z e : List UInt8} {b : UInt8} (ha : a.length = 4) (hc : c.length = 2) (hd : d.length = 4) (k : Nat) : (parts a b c d z e).getD (11 + k) 0 = (z ++ e).getD k 0 := by
  rw [List.getD_eq_getElem?_getD, List.getD_eq_getElem?_getD]
  congr 1
  unfold parts
  rw [List.getElem?_append_right (by omega), ha, show 11 + k - 4 = (6 + k) + 1 by omega, List.getElem?_cons_succ, List.getElem?_append_right (by omega), hc, List.getElem?_append_right (by omega), hd]
  congr 1
  omega
theorem parts_flag {a c d z e : List UInt8} {b : UInt8} (ha : a.length = 4) : (parts a b c d z e).getD 4 0 = b := by
  rw [List.getD_eq_getElem?_getD]
  unfold parts
  rw [List.getElem?_append_right (by omega), ha]; rfl
theorem flag_get (p : List UInt8) (hp : p.length = 64) : (((p.getD 4 0).toNat : Int) == 1) = (readH p).live := by
  obtain ⟨a, b, c, d, z, e, ha, hc, hd, hz, he, rfl⟩ := parts_of p hp
  rw [read_parts ha hc hd, parts_flag ha]
/-- the whole pages, in the document's own words -/
theorem whole_iff (p : List UInt8) (hp : p.length = 64) : wholeB p = true ↔ getN p 0 4 = getN p 60 4 ∧ (p.getD 4 0).toNat ≤ 1 ∧ (∀ i, 11 ≤ i → i < 60 → p.getD i 0 = 0) ∧ rightB (readH p) = true := by
  obtain ⟨a, b, c, d, z, e, ha, hc, hd, hz, he, rfl⟩ := parts_of p hp
  unfold wholeB
  rw [Bool.and_eq_true, decide_eq_true_iff, page_parts ha hc hd hz, get_seq ha, get_again ha hc hd hz he, parts_flag ha]
  constructor
  · rintro ⟨h0, h1, rfl, rfl⟩
    refine ⟨rfl, h1, fun i hi1 hi2 => ?_, h0⟩
    obtain ⟨k, rfl⟩ : ∃ k, i = 11 + k := ⟨i - 11, by omega⟩
    rw [parts_at ha hc hd, List.getD_eq_getElem?_getD, List.getElem?_append_left (by rw [nils_length]; omega)]
    unfold nils
    rw [List.getElem?_replicate, if_pos (by omega)]; rfl
  · rintro ⟨h1, h2, h3, h0⟩
    refine ⟨h0, h2, ?_, num_inj (by omega) h1⟩
    apply List.ext_getElem?
    intro k
    unfold nils
    rw [List.getElem?_replicate]
    by_cases hk : k < 49
    · rw [if_pos hk]
      have := h3 (11 + k) (by omega) (by omega)
      rw [parts_at ha hc hd, List.getD_eq_getElem?_getD, List.getElem?_append_left (by omega), List.getElem?_eq_getElem (by omega)] at this
      rw [List.getElem?_eq_getElem (by omega)]
      exact congrArg some this
    · rw [if_neg hk, List.getElem?_eq_none (by omega)]

/-! ### a page that begins as one's, and goes on as the other's -/
theorem page_ends {h : Head} : (pageH h).take 4 = bytesN 4 h.seq ∧ (pageH h).drop 60 = bytesN 4 h.seq := by
  constructor
  · unfold pageH parts
    rw [List.take_append_of_le_length (by rw [bytesN_length]; omega), List.take_of_length_le (by rw [bytesN_length]; omega)]
  · unfold pageH parts
    rw [show (60 : Nat) = 4 + (1 + (2 + (4 + 49))) from rfl, ← List.drop_drop, drop_at _ _ 4 (bytesN_length 4 _), ← List.drop_drop]
    show ((bytesN 2 _ ++ _).drop (2 + (4 + 49))) = _
    rw [← List.drop_drop, drop_at _ _ 2 (bytesN_length 2 _), ← List.drop_drop, drop_at _ _ 4 (bytesN_length 4 _), drop_at _ _ 49 nils_length]
theorem torn (g h : Head) (hg : rightB g = true) (hh : rightB h = true) (hne : g.seq ≠ h.seq) (n : Nat) (hn : n ≤ 64) (hw : wholeB ((pageH g).take n ++ (pageH h).drop n) = true) :
    (pageH g).take n ++ (pageH h).drop n = pageH g ∨ (pageH g).take n ++ (pageH h).drop n = pageH h := by
  obtain ⟨g1, g2, _⟩ := right_yes hg
  obtain ⟨h1, h2, _⟩ := right_yes hh
  obtain ⟨_, hx⟩ := whole_yes hw
  obtain ⟨lg, lh⟩ := And.intro (pageH_length g) (pageH_length h)
  obtain ⟨eg1, eg2⟩ := page_ends (h := g)
  obtain ⟨eh1, eh2⟩ := page_ends (h := h)
  generalize hxd : (pageH g).take n ++ (pageH h).drop n = x at *
  obtain ⟨ex1, ex2⟩ := page_ends (h := readH x)
  rw [hx] at ex1 ex2
  have both : x.take 4 = x.drop 60 := by rw [ex1, ex2]
  by_cases hc : n ≤ 60
  · -- the end is the other's
    have e2 : x.drop 60 = bytesN 4 h.seq := by
      rw [← hxd, ← eh2, List.drop_append, List.drop_of_length_le (by simp; omega), List.nil_append, List.drop_drop]
      congr 1
      simp
      omega
    by_cases hc4 : 4 ≤ n
    · exfalso
      have e1 : x.take 4 = bytesN 4 g.seq := by
        rw [← hxd, ← eg1, List.take_append_of_le_length (by simp; omega), List.take_take]
        congr 1
        omega
      exact hne (bytes4_inj g1 g2 h1 h2 (by rw [← e1, ← e2, both]))
    · right
      have e1 : x.take 4 = (pageH h).take 4 := by rw [both, e2, eh1]
      have e3 : x.drop 4 = (pageH h).drop 4 := by
        rw [← hxd, List.drop_append, List.drop_of_length_le (by simp; omega), List.nil_append, List.drop_drop]
        congr 1
        simp
        omega
      rw [← List.take_append_drop 4 x, e1, e3, List.take_append_drop]
  · left
    have e1 : x.take 60 = (pageH g).take 60 := by
      rw [← hxd, List.take_append_of_le_length (by simp; omega), List.take_take]
      congr 1
      omega
    have e0 : x.take 4 = bytesN 4 g.seq := by
      have := congrArg (List.take 4) e1
      rw [List.take_take, List.take_take] at this
      exact this.trans eg1
    have e2 : x.drop 60 = (pageH g).drop 60 := by rw [← both, e0, eg2]
    rw [← List.take_append_drop 60 x, e1, e2, List.take_append_drop]

/-! ### the next number -/
def up (n : Int) (p : List UInt8) : Int := max (max n (getN p 0 4 + 1)) (getN p 60 4 + 1)
def nextN (ps : List (List UInt8)) : Int := ps.foldl up 0
theorem nextN_snoc (ps : List (List UInt8)) (p : List UInt8) : nextN (ps ++ [p]) = up (nextN ps) p := by
  unfold nextN; rw [List.foldl_append]; rfl
theorem up_le (n : Int) (p : List UInt8) (M : Int) : up n p ≤ M ↔ n ≤ M ∧ getN p 0 4 < M ∧ getN p 60 4 < M := by unfold up; omega
theorem fold_le (ps : List (List UInt8)) : ∀ (n M : Int), ps.foldl up n ≤ M ↔ n ≤ M ∧ ∀ p ∈ ps, getN p 0 4 < M ∧ getN p 60 4 < M := by
  induction ps with
  | nil => intro n M; simp
  | cons p ps ih =>
    intro n M
    rw [List.foldl_cons, ih, up_le]
    simp only [List.mem_cons, forall_eq_or_imp]
    constructor
    · rintro ⟨⟨h1, h2⟩, h3⟩; exact ⟨h1, h2, h3⟩
    · rintro ⟨h1, h2, h3⟩; exact ⟨⟨h1, h2⟩, h3⟩
theorem nextN_le (ps : List (List UInt8)) (M : Int) : nextN ps ≤ M ↔ 0 ≤ M ∧ ∀ p ∈ ps, getN p 0 4 < M ∧ getN p 60 4 < M := fold_le ps 0 M
theorem nextN_nonneg (ps : List (List UInt8)) : 0 ≤ nextN ps := ((nextN_le ps (nextN ps)).1 (Int.le_refl _)).1
theorem nextN_gt (ps : List (List UInt8)) (p : List UInt8) (h : p ∈ ps) : getN p 0 4 < nextN ps := (((nextN_le ps (nextN ps)).1 (Int.le_refl _)).2 p h).1
theorem nextN_sub (ps qs : List (List UInt8)) (h : ∀ p ∈ ps, p ∈ qs) : nextN ps ≤ nextN qs :=
  (nextN_le ps _).2 ⟨nextN_nonneg qs, fun p hp => ((nextN_le qs _).1 (Int.le_refl _)).2 p (h p hp)⟩
theorem nextN_same (ps qs : List (List UInt8)) (h : ∀ p, p ∈ ps ↔ p ∈ qs) : nextN ps = nextN qs :=
  Int.le_antisymm (nextN_sub ps qs fun p => (h p).1) (nextN_sub qs ps fun p => (h p).2)
theorem nextN_top (ps : List (List UInt8)) (h : ∀ p ∈ ps, p.length = 64) : nextN ps ≤ 4294967296 :=
  (nextN_le ps _).2 ⟨by omega, fun p hp => by have := get_bd p (h p hp); omega⟩
end Go.Proofs.Ytlamllnflbdcjaa.Hd
