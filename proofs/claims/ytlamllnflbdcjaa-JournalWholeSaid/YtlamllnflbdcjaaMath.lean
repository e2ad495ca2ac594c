/-
  Plain mathematics of the check sum: what the two halves become over bytes. Nothing of the program is in it.
-/
namespace Go.Proofs.Ytlamllnflbdcjaa.Mt

/-- one byte more: the halves a and b -/
def step (p : Int × Int) (c : UInt8) : Int × Int := ((p.1 + (c.toNat : Int)) % 65535, (p.2 + (p.1 + (c.toNat : Int)) % 65535) % 65535)
def run (p : Int × Int) (l : List UInt8) : Int × Int := l.foldl step p
def joinN (p : Int × Int) : Int := p.2 * 65536 + p.1
def splitN (s : Int) : Int × Int := (s % 65536 % 65535, s / 65536 % 65535)
def Fit (p : Int × Int) : Prop := 0 ≤ p.1 ∧ p.1 < 65535 ∧ 0 ≤ p.2 ∧ p.2 < 65535

theorem fit_step (p : Int × Int) (c : UInt8) : Fit (step p c) := by
  unfold Fit step
  exact ⟨Int.emod_nonneg _ (by omega), Int.emod_lt_of_pos _ (by omega), Int.emod_nonneg _ (by omega), Int.emod_lt_of_pos _ (by omega)⟩
theorem fit_run (p : Int × Int) (l : List UInt8) (h : Fit p) : Fit (run p l) := by
  induction l generalizing p with
  | nil => exact h
  | cons c l ih => exact ih _ (fit_step p c)
theorem fit_split (s : Int) : Fit (splitN s) := by
  unfold Fit splitN
  exact ⟨Int.emod_nonneg _ (by omega), Int.emod_lt_of_pos _ (by omega), Int.emod_nonneg _ (by omega), Int.emod_lt_of_pos _ (by omega)⟩
theorem fit_zero : Fit (0, 0) := by unfold Fit; simp
theorem split_join (p : Int × Int) (h : Fit p) : splitN (joinN p) = p := by
  obtain ⟨a, b⟩ := p
  unfold Fit at h
  unfold splitN joinN
  simp only at h ⊢
  rw [Prod.mk.injEq]
  exact ⟨by omega, by omega⟩
theorem split_zero : splitN 0 = (0, 0) := by decide
theorem run_append (p : Int × Int) (l r : List UInt8) : run p (l ++ r) = run (run p l) r := by
  unfold run; rw [List.foldl_append]
theorem run_nil (p : Int × Int) : run p [] = p := rfl
theorem run_snoc (p : Int × Int) (l : List UInt8) (c : UInt8) : run p (l ++ [c]) = step (run p l) c := by
  rw [run_append]; rfl
theorem join_bd (p : Int × Int) (h : Fit p) : 0 ≤ joinN p ∧ joinN p < 4294967296 := by
  unfold Fit at h; unfold joinN; omega
theorem join_inj (p q : Int × Int) (hp : Fit p) (hq : Fit q) (h : joinN p = joinN q) : p = q := by
  rw [← split_join p hp, ← split_join q hq, h]

/-- the halves of bytes in closed form: the sum of bytes, and the sum of the sums -/
def sums : Int → Int → List UInt8 → Int × Int
  | a, b, [] => (a, b)
  | a, b, c :: l => sums (a + (c.toNat : Int)) (b + (a + (c.toNat : Int))) l
theorem run_sums (a b : Int) (l : List UInt8) : run (a % 65535, b % 65535) l = ((sums a b l).1 % 65535, (sums a b l).2 % 65535) := by
  induction l generalizing a b with
  | nil => rfl
  | cons c l ih =>
    show run (step (a % 65535, b % 65535) c) l = _
    have e : step (a % 65535, b % 65535) c = ((a + (c.toNat : Int)) % 65535, (b + (a + (c.toNat : Int))) % 65535) := by
      unfold step; simp only; rw [Prod.mk.injEq]; exact ⟨by omega, by omega⟩
    rw [e, ih]; rfl
/-- what more in the two halves at the start makes of them at the end -/
theorem sums_more (a b x y : Int) (l : List UInt8) : sums (a + x) (b + y) l = ((sums a b l).1 + x, (sums a b l).2 + y + x * l.length) := by
  induction l generalizing a b y with
  | nil => simp [sums]
  | cons c l ih =>
    unfold sums
    have e1 : a + x + (c.toNat : Int) = a + (c.toNat : Int) + x := by omega
    have e2 : b + y + (a + x + (c.toNat : Int)) = b + (a + (c.toNat : Int)) + (y + x) := by omega
    rw [e2, e1, ih]
    rw [Prod.mk.injEq]
    refine ⟨rfl, ?_⟩
    rw [List.length_cons, Int.natCast_add, Int.mul_add]
    omega
theorem sums_append (a b : Int) (l r : List UInt8) : sums a b (l ++ r) = sums (sums a b l).1 (sums a b l).2 r := by
  induction l generalizing a b with
  | nil => rfl
  | cons c l ih => exact ih _ _
theorem run_zero (l : List UInt8) : run (0, 0) l = ((sums 0 0 l).1 % 65535, (sums 0 0 l).2 % 65535) := run_sums 0 0 l

/-- one byte another: the sums differ -/
theorem tells (l r : List UInt8) (c d : UInt8) (h : run (0, 0) (l ++ c :: r) = run (0, 0) (l ++ d :: r)) : c = d := by
  rw [run_zero, run_zero, Prod.mk.injEq] at h
  obtain ⟨h, _⟩ := h
  rw [sums_append, sums_append] at h
  generalize (sums 0 0 l).1 = a at h
  generalize (sums 0 0 l).2 = b at h
  unfold sums at h
  have e1 : a + (d.toNat : Int) = a + (c.toNat : Int) + ((d.toNat : Int) - (c.toNat : Int)) := by omega
  have e2 : b + (a + (d.toNat : Int)) = b + (a + (c.toNat : Int)) + ((d.toNat : Int) - (c.toNat : Int)) := by omega
  rw [e2, e1, sums_more (a + (c.toNat : Int)) (b + (a + (c.toNat : Int))) ((d.toNat : Int) - (c.toNat : Int)) ((d.toNat : Int) - (c.toNat : Int))] at h
  simp only at h
  generalize (sums (a + (c.toNat : Int)) (b + (a + (c.toNat : Int))) r).1 = x at h
  have hc := c.toNat_lt
  have hd := d.toNat_lt
  apply UInt8.toNat_inj.1
  omega

/-- two bytes changed places: the sums differ if they are unlike and at most 256 places apart -/
theorem swaps (l m r : List UInt8) (c d : UInt8) (hm : m.length + 1 ≤ 256) (h : run (0, 0) (l ++ c :: (m ++ d :: r)) = run (0, 0) (l ++ d :: (m ++ c :: r))) : c = d := by
  rw [run_zero, run_zero, Prod.mk.injEq] at h
  obtain ⟨_, h⟩ := h
  rw [sums_append, sums_append] at h
  generalize (sums 0 0 l).1 = a at h
  generalize (sums 0 0 l).2 = b at h
  unfold sums at h
  rw [sums_append, sums_append] at h
  have e1 : a + (d.toNat : Int) = a + (c.toNat : Int) + ((d.toNat : Int) - (c.toNat : Int)) := by omega
  have e2 : b + (a + (d.toNat : Int)) = b + (a + (c.toNat : Int)) + ((d.toNat : Int) - (c.toNat : Int)) := by omega
  rw [e2, e1, sums_more (a + (c.toNat : Int)) (b + (a + (c.toNat : Int))) ((d.toNat : Int) - (c.toNat : Int)) ((d.toNat : Int) - (c.toNat : Int))] at h
  simp only at h
  generalize (sums (a + (c.toNat : Int)) (b + (a + (c.toNat : Int))) m).1 = x at h
  generalize (sums (a + (c.toNat : Int)) (b + (a + (c.toNat : Int))) m).2 = y at h
  unfold sums at h
  have e3 : x + ((d.toNat : Int) - (c.toNat : Int)) + (c.toNat : Int) = x + (d.toNat : Int) + 0 := by omega
  have e4 : y + ((d.toNat : Int) - (c.toNat : Int)) + ((d.toNat : Int) - (c.toNat : Int)) * (m.length : Int) + (x + (d.toNat : Int) + 0)
      = y + (x + (d.toNat : Int)) + ((d.toNat : Int) - (c.toNat : Int)) * ((m.length : Int) + 1) := by
    rw [Int.mul_add]; omega
  rw [e3, e4, sums_more (x + (d.toNat : Int)) (y + (x + (d.toNat : Int))) 0 _] at h
  simp only [Int.zero_mul, Int.add_zero] at h
  generalize (sums (x + (d.toNat : Int)) (y + (x + (d.toNat : Int))) r).2 = z at h
  have hc := c.toNat_lt
  have hd := d.toNat_lt
  apply UInt8.toNat_inj.1
  generalize hk : (m.length : Int) + 1 = k at h
  have k1 : 1 ≤ k := by omega
  have k2 : k ≤ 256 := by omega
  have b1 : ((d.toNat : Int) - (c.toNat : Int)) * k ≤ 255 * 256 := by
    refine Int.le_trans (Int.mul_le_mul_of_nonneg_right (c := k) (show (d.toNat : Int) - (c.toNat : Int) ≤ 255 by omega) (by omega)) ?_
    omega
  have b2 : -(255 * 256) ≤ ((d.toNat : Int) - (c.toNat : Int)) * k := by
    refine Int.le_trans ?_ (Int.mul_le_mul_of_nonneg_right (c := k) (show (-255 : Int) ≤ (d.toNat : Int) - (c.toNat : Int) by omega) (by omega))
    omega
  have z0 : ((d.toNat : Int) - (c.toNat : Int)) * k = 0 := by
    generalize ((d.toNat : Int) - (c.toNat : Int)) * k = q at h b1 b2
    omega
  rcases Int.mul_eq_zero.1 z0 with e | e
  · omega
  · omega
end Go.Proofs.Ytlamllnflbdcjaa.Mt
