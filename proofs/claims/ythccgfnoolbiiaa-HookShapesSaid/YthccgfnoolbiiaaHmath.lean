/-
  Plain mathematics of hook: bytes in two words.
-/
namespace Go.Proofs.Ythccgfnoolbiiaa.Hk

/-- the number of bytes, the highest first -/
def be (l : List UInt8) : Nat := l.foldl (fun a b => a * 256 + b.toNat) 0
theorem be_snoc (l : List UInt8) (b : UInt8) : be (l ++ [b]) = be l * 256 + b.toNat := by unfold be; rw [List.foldl_append]; rfl
theorem be_lt (l : List UInt8) : be l < 256 ^ l.length := by
  suffices h : ∀ n (l : List UInt8), l.length = n → be l < 256 ^ n from h _ l rfl
  intro n
  induction n with
  | zero => intro l h; rw [List.length_eq_zero_iff.1 h]; decide
  | succ n ih =>
    intro l h
    obtain ⟨t, b, rfl⟩ : ∃ t b, l = t ++ [b] := ⟨l.dropLast, l.getLast (by intro e; rw [e] at h; simp at h), (List.dropLast_concat_getLast _).symm⟩
    have ht := ih t (by simpa using h)
    have hb := b.toNat_lt
    rw [be_snoc, Nat.pow_succ]
    omega
theorem be_inj : ∀ (n : Nat) (l m : List UInt8), l.length = n → m.length = n → be l = be m → l = m
  | 0, l, m, h1, h2, _ => by rw [List.length_eq_zero_iff.1 h1, List.length_eq_zero_iff.1 h2]
  | n + 1, l, m, h1, h2, h => by
    obtain ⟨t, b, rfl⟩ : ∃ t b, l = t ++ [b] := ⟨l.dropLast, l.getLast (by intro e; rw [e] at h1; simp at h1), (List.dropLast_concat_getLast _).symm⟩
    obtain ⟨s, c, rfl⟩ : ∃ s c, m = s ++ [c] := ⟨m.dropLast, m.getLast (by intro e; rw [e] at h2; simp at h2), (List.dropLast_concat_getLast _).symm⟩
    rw [be_snoc, be_snoc] at h
    have hb := b.toNat_lt
    have hc := c.toNat_lt
    have e1 : be t = be s := by omega
    have e2 : b.toNat = c.toNat := by omega
    rw [be_inj n t s (by simpa using h1) (by simpa using h2) e1, UInt8.toNat_inj.1 e2]
/-- as Go's int -/
def sg (n : Nat) : Int := if n < 9223372036854775808 then (n : Int) else (n : Int) - 18446744073709551616
/-- of Go's int -/
def us (i : Int) : Nat := (i % 18446744073709551616).toNat
theorem sg_range {n : Nat} (h : n < 18446744073709551616) : -9223372036854775808 ≤ sg n ∧ sg n ≤ 9223372036854775807 := by
  unfold sg; split <;> omega
theorem us_sg {n : Nat} (h : n < 18446744073709551616) : us (sg n) = n := by
  unfold us sg; split <;> omega
theorem sg_us {i : Int} (h1 : -9223372036854775808 ≤ i) (h2 : i ≤ 9223372036854775807) : sg (us i) = i := by
  unfold us sg; split <;> omega
theorem us_lt (i : Int) : us i < 18446744073709551616 := by unfold us; omega
/-- the byte at a place, 0 behind the end -/
def at0 (s : List UInt8) (i : Nat) : UInt8 := s.getD i 0
/-- k bytes from a place on, filled up with 0 -/
def cut (s : List UInt8) (i k : Nat) : List UInt8 := (List.range k).map (fun j => at0 s (i + j))
theorem cut_length (s : List UInt8) (i k : Nat) : (cut s i k).length = k := by unfold cut; simp
theorem cut_succ (s : List UInt8) (i k : Nat) : cut s i (k + 1) = cut s i k ++ [at0 s (i + k)] := by unfold cut; rw [List.range_succ, List.map_append]; rfl
theorem be_cut (s : List UInt8) (i k : Nat) : be (cut s i (k + 1)) = be (cut s i k) * 256 + (at0 s (i + k)).toNat := by rw [cut_succ, be_snoc]
def w0 (s : List UInt8) : Int := sg (be (cut s 0 8))
def w1 (s : List UInt8) : Int := sg (be (cut s 8 8))
theorem be8_lt (s : List UInt8) (i : Nat) : be (cut s i 8) < 18446744073709551616 := by
  have := be_lt (cut s i 8)
  rw [cut_length] at this
  exact this
def packs (s : List UInt8) : Int × Int := if s.length ≤ 16 then (w0 s, w1 s) else (0, 0)
def words (s : List UInt8) : Int × Int := if s.length ≤ 13 then packs (s ++ [UInt8.ofNat s.length]) else (0, 0)
/-- the last k bytes of a number, the highest first -/
def dig : Nat → Nat → List UInt8
  | _, 0 => []
  | n, k + 1 => dig (n / 256) k ++ [UInt8.ofNat (n % 256)]
theorem dig_length : ∀ (k n : Nat), (dig n k).length = k
  | 0, _ => rfl
  | k + 1, n => by rw [dig, List.length_append, dig_length k]; rfl
theorem be_dig : ∀ (k n : Nat), n < 256 ^ k → be (dig n k) = n
  | 0, n, h => by
    have : n = 0 := by simpa using h
    rw [this]; rfl
  | k + 1, n, h => by
    rw [Nat.pow_succ] at h
    rw [dig, be_snoc, be_dig k (n / 256) (by omega), UInt8.toNat_ofNat']
    omega
theorem dig_be (l : List UInt8) : dig (be l) l.length = l :=
  be_inj l.length _ _ (dig_length _ _) rfl (be_dig _ _ (be_lt l))
theorem dig_at : ∀ (k n i : Nat), i < k → (dig n k)[i]? = some (UInt8.ofNat (n / 256 ^ (k - 1 - i) % 256))
  | 0, _, i, h => absurd h (Nat.not_lt_zero _)
  | k + 1, n, i, h => by
    rw [dig]
    by_cases e : i < k
    · rw [List.getElem?_append_left (by rw [dig_length]; exact e), dig_at k (n / 256) i e, Nat.div_div_eq_div_mul, Nat.mul_comm, ← Nat.pow_succ, show (k - 1 - i).succ = k + 1 - 1 - i by omega]
    · obtain rfl : i = k := by omega
      rw [List.getElem?_append_right (by rw [dig_length]; exact Nat.le_refl _), dig_length, Nat.sub_self, show i + 1 - 1 - i = 0 by omega]
      simp
def bytes8 (i : Int) : List UInt8 := dig (us i) 8
theorem bytes8_length (i : Int) : (bytes8 i).length = 8 := dig_length _ _
theorem be_bytes8 (i : Int) : be (bytes8 i) = us i := be_dig 8 _ (us_lt i)
theorem bytes8_w {l : List UInt8} (h : l.length = 8) : bytes8 (sg (be l)) = l := by
  have hb := be_lt l
  rw [h] at hb
  unfold bytes8
  rw [us_sg hb]
  have := dig_be l
  rw [h] at this
  exact this
def bytes16 (a b : Int) : List UInt8 := bytes8 a ++ bytes8 b
theorem bytes16_length (a b : Int) : (bytes16 a b).length = 16 := by unfold bytes16; rw [List.length_append, bytes8_length, bytes8_length]
theorem cut_app (s : List UInt8) (i j k : Nat) : cut s i j ++ cut s (i + j) k = cut s i (j + k) := by
  unfold cut
  rw [List.range_add, List.map_append, List.map_map]
  congr 1
  apply List.map_congr_left
  intro x _
  show at0 s (i + j + x) = at0 s (i + (j + x))
  rw [Nat.add_assoc]
theorem cut_same {s : List UInt8} {k : Nat} (h : s.length ≤ k) : (cut s 0 k).take s.length = s := by
  apply List.ext_getElem?
  intro i
  by_cases hi : i < s.length
  · rw [List.getElem?_take_of_lt hi]
    unfold cut
    rw [List.getElem?_map, List.getElem?_range (by omega)]
    simp only [Option.map_some, Nat.zero_add]
    unfold at0
    rw [List.getD_eq_getElem?_getD, List.getElem?_eq_getElem hi]
    rfl
  · rw [List.getElem?_eq_none (by rw [List.length_take, cut_length]; omega), List.getElem?_eq_none (by omega)]
theorem cut_exact {s : List UInt8} (i k : Nat) (h : i + k ≤ s.length) : cut s i k = (s.drop i).take k := by
  apply List.ext_getElem?
  intro j
  by_cases hj : j < k
  · unfold cut
    rw [List.getElem?_map, List.getElem?_range hj, List.getElem?_take_of_lt hj, List.getElem?_drop]
    simp only [Option.map_some]
    unfold at0
    rw [List.getD_eq_getElem?_getD, List.getElem?_eq_getElem (by omega)]
    rfl
  · rw [List.getElem?_eq_none (by rw [cut_length]; omega), List.getElem?_eq_none (by rw [List.length_take]; omega)]
/-- bytes come back from their words -/
theorem back (s : List UInt8) (h : s.length ≤ 16) : (bytes16 (w0 s) (w1 s)).take s.length = s := by
  unfold bytes16 w0 w1
  rw [bytes8_w (cut_length _ _ _), bytes8_w (cut_length _ _ _)]
  have := cut_app s 0 8 8
  rw [Nat.zero_add] at this
  rw [this]
  exact cut_same h
/-- words come back from their bytes -/
theorem forth (a b : Int) (ha1 : -9223372036854775808 ≤ a) (ha2 : a ≤ 9223372036854775807) (hb1 : -9223372036854775808 ≤ b) (hb2 : b ≤ 9223372036854775807) : w0 (bytes16 a b) = a ∧ w1 (bytes16 a b) = b := by
  have hl := bytes16_length a b
  unfold w0 w1
  rw [cut_exact 0 8 (by omega), cut_exact 8 8 (by omega)]
  unfold bytes16
  rw [List.drop_zero, List.take_append_of_le_length (by rw [bytes8_length]; exact Nat.le_refl _), List.take_of_length_le (by rw [bytes8_length]; exact Nat.le_refl _)]
  rw [List.drop_append_of_le_length (by rw [bytes8_length]; exact Nat.le_refl _), List.drop_of_length_le (by rw [bytes8_length]; exact Nat.le_refl _), List.nil_append, List.take_of_length_le (by rw [bytes8_length]; exact Nat.le_refl _), be_bytes8, be_bytes8]
  exact ⟨sg_us ha1 ha2, sg_us hb1 hb2⟩
/-- unlike names have unlike words -/
theorem w_inj {s t : List UInt8} (h0 : w0 s = w0 t) (h1 : w1 s = w1 t) : cut s 0 16 = cut t 0 16 := by
  have e0 : be (cut s 0 8) = be (cut t 0 8) := by
    have := congrArg us h0
    unfold w0 at this
    rwa [us_sg (be8_lt _ _), us_sg (be8_lt _ _)] at this
  have e1 : be (cut s 8 8) = be (cut t 8 8) := by
    have := congrArg us h1
    unfold w1 at this
    rwa [us_sg (be8_lt _ _), us_sg (be8_lt _ _)] at this
  have f0 := be_inj 8 _ _ (cut_length _ _ _) (cut_length _ _ _) e0
  have f1 := be_inj 8 _ _ (cut_length _ _ _) (cut_length _ _ _) e1
  have a1 := cut_app s 0 8 8
  have a2 := cut_app t 0 8 8
  rw [Nat.zero_add] at a1 a2
  rw [← a1, ← a2, f0, f1]
theorem cut_get {s t : List UInt8} {k : Nat} (h : cut s 0 k = cut t 0 k) (i : Nat) (hi : i < k) : at0 s i = at0 t i := by
  have this : (cut s 0 k)[i]? = (cut t 0 k)[i]? := by rw [h]
  unfold cut at this
  rw [List.getElem?_map, List.getElem?_map, List.getElem?_range hi] at this
  simp only [Option.map_some, Nat.zero_add] at this
  injection this
def nm (s : List UInt8) : List UInt8 := s ++ [UInt8.ofNat s.length]
theorem nm_at_lt {s : List UInt8} {i : Nat} (h : i < s.length) : at0 (nm s) i = at0 s i := by
  unfold at0 nm
  rw [List.getD_eq_getElem?_getD, List.getD_eq_getElem?_getD, List.getElem?_append_left h]
theorem nm_at_len (s : List UInt8) : at0 (nm s) s.length = UInt8.ofNat s.length := by
  unfold at0 nm
  rw [List.getD_eq_getElem?_getD, List.getElem?_append_right (Nat.le_refl _), Nat.sub_self]
  rfl
theorem nm_at_gt {s : List UInt8} {i : Nat} (h : s.length < i) : at0 (nm s) i = 0 := by
  unfold at0 nm
  rw [List.getD_eq_getElem?_getD, List.getElem?_append_right (by omega), List.getElem?_eq_none (by simp; omega)]
  rfl
theorem nm_len {s t : List UInt8} (hs : s.length ≤ 13) (ht : t.length ≤ 13) (h : cut (nm s) 0 16 = cut (nm t) 0 16) : ¬ s.length < t.length := by
  intro hlt
  have := cut_get h t.length (by omega)
  rw [nm_at_gt hlt, nm_at_len] at this
  have h2 := congrArg UInt8.toNat this
  rw [UInt8.toNat_ofNat'] at h2
  have : (0 : UInt8).toNat = 0 := rfl
  omega
theorem nm_inj {s t : List UInt8} (hs : s.length ≤ 13) (ht : t.length ≤ 13) (h0 : w0 (nm s) = w0 (nm t)) (h1 : w1 (nm s) = w1 (nm t)) : s = t := by
  have h := w_inj h0 h1
  have a := nm_len hs ht h
  have b := nm_len ht hs h.symm
  have hl : s.length = t.length := by omega
  apply List.ext_getElem hl
  intro i hi hi2
  have := cut_get h i (by omega)
  rw [nm_at_lt hi, nm_at_lt hi2] at this
  unfold at0 at this
  rw [List.getD_eq_getElem?_getD, List.getD_eq_getElem?_getD, List.getElem?_eq_getElem hi, List.getElem?_eq_getElem hi2] at this
  exact this
end Go.Proofs.Ythccgfnoolbiiaa.Hk
