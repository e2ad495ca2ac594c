/-
  Plain mathematics of inodes: their half of a page, what is read from it, which are right. Nothing of the program is in it.
-/
import Derived.Test.YtchlhnpnenafnaaLmath
namespace Go.Proofs.Ytchlhnpnenafnaa.Ii

/-- what is known of a file: Kind, Perm, Uid, Links, Size, the four numbers, Ind, Dind -/
structure Ino where
  k : Int
  p : Int
  u : Int
  l : Int
  s : Int
  a : Int
  b : Int
  c : Int
  d : Int
  e : Int
  f : Int
def zero : Ino := ⟨0, 0, 0, 0, 0, 0, 0, 0, 0, 0, 0⟩
def Ino.dir (x : Ino) : Nat → Int
  | 0 => x.a
  | 1 => x.b
  | 2 => x.c
  | _ => x.d
def z32 : List UInt8 := List.replicate 32 0
theorem z32_length : z32.length = 32 := rfl

/-! ### a part of a page -/
theorem over_drop (p : List UInt8) (a : Nat) (s : List UInt8) (h : a + s.length ≤ p.length) : ((Pg.over p a s).drop a).take s.length = s := Pg.over_back p a s h
theorem over_over (p : List UInt8) (a : Nat) (s : List UInt8) (j : Nat) (t : List UInt8) (h : a + s.length ≤ p.length) (hj : j + t.length ≤ s.length) :
    Pg.over (Pg.over p a s) (a + j) t = Pg.over p a (Pg.over s j t) := by
  apply List.ext_getElem?
  intro i
  have hl := Pg.over_length p a s h
  have hs := Pg.over_length s j t hj
  rw [Pg.over_at _ _ _ _ (by omega), Pg.over_at _ _ _ _ h, Pg.over_at _ _ _ _ (by omega), hs]
  by_cases h1 : i < a
  · rw [if_pos (by omega), if_pos h1, if_pos h1]
  · rw [if_neg h1, if_neg h1]
    obtain ⟨m, rfl⟩ : ∃ m, i = a + m := ⟨i - a, by omega⟩
    rw [show a + m - a = m by omega, show a + m - (a + j) = m - j by omega, Pg.over_at _ _ _ _ hj]
    by_cases h2 : m < j
    · rw [if_pos (by omega), if_pos (by omega), if_pos (by omega), if_pos h2]
    · rw [if_neg (by omega), if_neg h2]
      by_cases h3 : m < j + t.length
      · rw [if_pos (by omega), if_pos (by omega), if_pos h3]
      · rw [if_neg (by omega), if_neg h3]
/-- bytes that lie elsewhere stay -/
theorem over_apart (p : List UInt8) (a : Nat) (s : List UInt8) (j n : Nat) (h : a + s.length ≤ p.length) (hj : j + n ≤ a ∨ a + s.length ≤ j) : ((Pg.over p a s).drop j).take n = (p.drop j).take n := by
  apply List.ext_getElem?
  intro i
  rw [List.getElem?_take, List.getElem?_take, List.getElem?_drop, List.getElem?_drop]
  by_cases h1 : i < n
  · rw [if_pos h1, if_pos h1, Pg.over_at _ _ _ _ h]
    rcases hj with hj | hj
    · rw [if_pos (by omega)]
    · rw [if_neg (by omega), if_neg (by omega)]
  · rw [if_neg h1, if_neg h1]
theorem part_part (p : List UInt8) (a m j n : Nat) (h : j + n ≤ m) : (((p.drop a).take m).drop j).take n = (p.drop (a + j)).take n := by
  apply List.ext_getElem?
  intro i
  rw [List.getElem?_take, List.getElem?_take, List.getElem?_drop, List.getElem?_drop, List.getElem?_take, List.getElem?_drop]
  by_cases h1 : i < n
  · rw [if_pos h1, if_pos h1, if_pos (by omega), Nat.add_assoc]
  · rw [if_neg h1, if_neg h1]

/-! ### put -/
/-- an inode's half -/
def half (x : Ino) : List UInt8 := Pg.bytesN 1 x.k ++ (0 :: (Pg.bytesN 2 x.p ++ (Pg.bytesN 2 x.u ++ (Pg.bytesN 2 x.l ++ (Pg.bytesN 4 x.s ++ (Pg.bytesN 2 x.a ++ (Pg.bytesN 2 x.b ++ (Pg.bytesN 2 x.c ++ (Pg.bytesN 2 x.d ++ (Pg.bytesN 2 x.e ++ (Pg.bytesN 2 x.f ++ List.replicate 8 0)))))))))))
theorem half_length (x : Ino) : (half x).length = 32 := rfl
/-- the five numbers ahead of the four -/
def headP (p : List UInt8) (A : Int) (x : Ino) : List UInt8 := Pg.setN (Pg.setN (Pg.setN (Pg.setN (Pg.setN (Pg.over p A.toNat z32) A 1 x.k) (A + 2) 2 x.p) (A + 4) 2 x.u) (A + 6) 2 x.l) (A + 8) 4 x.s
/-- the same, and so many of the four -/
def dirP (p : List UInt8) (A : Int) (x : Ino) : Nat → List UInt8
  | 0 => headP p A x
  | j + 1 => Pg.setN (dirP p A x j) (A + 12 + 2 * (j : Int)) 2 (x.dir j)
/-- the page with the inode in the half from A on -/
def putN (p : List UInt8) (A : Int) (x : Ino) : List UInt8 := Pg.setN (Pg.setN (dirP p A x 4) (A + 20) 2 x.e) (A + 22) 2 x.f
theorem set_half (p : List UInt8) (A : Nat) (s : List UInt8) (j n : Nat) (v : Int) (hp : p.length = 64) (hA : A + 32 ≤ 64) (hs : s.length = 32) (h1 : 1 ≤ n) (h2 : n ≤ 4) (h3 : j + n ≤ 32) :
    Pg.setN (Pg.over p A s) ((A : Int) + (j : Int)) (n : Int) v = Pg.over p A (Pg.over s j (Pg.bytesN n v)) := by
  unfold Pg.setN
  rw [if_pos (Pg.num_mk (by omega) (by omega) (by omega) (by omega))]
  rw [show ((A : Int) + (j : Int)).toNat = A + j by omega, show (n : Int).toNat = n by omega]
  exact over_over p A s j _ (by omega) (by rw [Pg.bytesN_length]; omega)
theorem over_half_length (s : List UInt8) (j n : Nat) (v : Int) (hs : s.length = 32) (h : j + n ≤ 32) : (Pg.over s j (Pg.bytesN n v)).length = 32 := by
  rw [Pg.over_length _ _ _ (by rw [Pg.bytesN_length]; omega), hs]
theorem step_half {p q s : List UInt8} {A : Nat} (hp : p.length = 64) (hA : A + 32 ≤ 64) (h : q = Pg.over p A s ∧ s.length = 32) (j n : Nat) (v : Int) (h1 : 1 ≤ n) (h2 : n ≤ 4) (h3 : j + n ≤ 32) :
    Pg.setN q ((A : Int) + (j : Int)) (n : Int) v = Pg.over p A (Pg.over s j (Pg.bytesN n v)) ∧ (Pg.over s j (Pg.bytesN n v)).length = 32 := by
  obtain ⟨rfl, hs⟩ := h
  exact ⟨set_half p A s j n v hp hA hs h1 h2 h3, over_half_length s j n v hs h3⟩
theorem putN_is (p : List UInt8) (A : Nat) (x : Ino) (hp : p.length = 64) (hA : A + 32 ≤ 64) : putN p (A : Int) x = Pg.over p A (half x) := by
  have e0 : Pg.over p (A : Int).toNat z32 = Pg.over p A z32 ∧ z32.length = 32 := ⟨rfl, rfl⟩
  have e1 := step_half hp hA e0 0 1 x.k (by omega) (by omega) (by omega)
  have e2 := step_half hp hA e1 2 2 x.p (by omega) (by omega) (by omega)
  have e3 := step_half hp hA e2 4 2 x.u (by omega) (by omega) (by omega)
  have e4 := step_half hp hA e3 6 2 x.l (by omega) (by omega) (by omega)
  have e5 := step_half hp hA e4 8 4 x.s (by omega) (by omega) (by omega)
  have e6 := step_half hp hA e5 12 2 x.a (by omega) (by omega) (by omega)
  have e7 := step_half hp hA e6 14 2 x.b (by omega) (by omega) (by omega)
  have e8 := step_half hp hA e7 16 2 x.c (by omega) (by omega) (by omega)
  have e9 := step_half hp hA e8 18 2 x.d (by omega) (by omega) (by omega)
  have e10 := step_half hp hA e9 20 2 x.e (by omega) (by omega) (by omega)
  have e11 := step_half hp hA e10 22 2 x.f (by omega) (by omega) (by omega)
  exact e11.1
theorem headP_length (p : List UInt8) (A : Int) (x : Ino) (hp : p.length = 64) (hA : A.toNat + 32 ≤ 64) : (headP p A x).length = 64 := by
  unfold headP
  refine Pg.setN_length _ _ _ _ (Pg.setN_length _ _ _ _ (Pg.setN_length _ _ _ _ (Pg.setN_length _ _ _ _ (Pg.setN_length _ _ _ _ ?_))))
  rw [Pg.over_length _ _ _ (by rw [z32_length]; omega), hp]
theorem dirP_length (p : List UInt8) (A : Int) (x : Ino) (hp : p.length = 64) (hA : A.toNat + 32 ≤ 64) (j : Nat) : (dirP p A x j).length = 64 := by
  induction j with
  | zero => exact headP_length p A x hp hA
  | succ j ih => exact Pg.setN_length _ _ _ _ ih
theorem putN_length (p : List UInt8) (A : Int) (x : Ino) (hp : p.length = 64) (hA : A.toNat + 32 ≤ 64) : (putN p A x).length = 64 :=
  Pg.setN_length _ _ _ _ (Pg.setN_length _ _ _ _ (dirP_length p A x hp hA 4))

/-! ### get -/
/-- the inode of the half from A on -/
def getI (p : List UInt8) (A : Int) : Ino :=
  ⟨Pg.getN p A 1, Pg.getN p (A + 2) 2, Pg.getN p (A + 4) 2, Pg.getN p (A + 6) 2, Pg.getN p (A + 8) 4, Pg.getN p (A + 12) 2, Pg.getN p (A + 14) 2, Pg.getN p (A + 16) 2, Pg.getN p (A + 18) 2, Pg.getN p (A + 20) 2, Pg.getN p (A + 22) 2⟩
/-- the inode of 32 bytes -/
def readH (h : List UInt8) : Ino :=
  ⟨Pg.numOf ((h.drop 0).take 1), Pg.numOf ((h.drop 2).take 2), Pg.numOf ((h.drop 4).take 2), Pg.numOf ((h.drop 6).take 2), Pg.numOf ((h.drop 8).take 4), Pg.numOf ((h.drop 12).take 2), Pg.numOf ((h.drop 14).take 2), Pg.numOf ((h.drop 16).take 2), Pg.numOf ((h.drop 18).take 2), Pg.numOf ((h.drop 20).take 2), Pg.numOf ((h.drop 22).take 2)⟩
theorem get_half (p : List UInt8) (A j n : Nat) (hA : A + 32 ≤ 64) (h1 : 1 ≤ n) (h2 : n ≤ 4) (h3 : j + n ≤ 32) : Pg.getN p ((A : Int) + (j : Int)) (n : Int) = Pg.numOf ((((p.drop A).take 32).drop j).take n) := by
  unfold Pg.getN
  rw [if_pos (Pg.num_mk (by omega) (by omega) (by omega) (by omega)), part_part _ _ _ _ _ h3]
  rw [show ((A : Int) + (j : Int)).toNat = A + j by omega, show (n : Int).toNat = n by omega]
theorem getI_is (p : List UInt8) (A : Nat) (hA : A + 32 ≤ 64) : getI p (A : Int) = readH ((p.drop A).take 32) := by
  have g := fun j n h1 h2 h3 => get_half p A j n hA h1 h2 h3
  have g0 : Pg.getN p (A : Int) 1 = _ := g 0 1 (by omega) (by omega) (by omega)
  have g1 : Pg.getN p ((A : Int) + 2) 2 = _ := g 2 2 (by omega) (by omega) (by omega)
  have g2 : Pg.getN p ((A : Int) + 4) 2 = _ := g 4 2 (by omega) (by omega) (by omega)
  have g3 : Pg.getN p ((A : Int) + 6) 2 = _ := g 6 2 (by omega) (by omega) (by omega)
  have g4 : Pg.getN p ((A : Int) + 8) 4 = _ := g 8 4 (by omega) (by omega) (by omega)
  have g5 : Pg.getN p ((A : Int) + 12) 2 = _ := g 12 2 (by omega) (by omega) (by omega)
  have g6 : Pg.getN p ((A : Int) + 14) 2 = _ := g 14 2 (by omega) (by omega) (by omega)
  have g7 : Pg.getN p ((A : Int) + 16) 2 = _ := g 16 2 (by omega) (by omega) (by omega)
  have g8 : Pg.getN p ((A : Int) + 18) 2 = _ := g 18 2 (by omega) (by omega) (by omega)
  have g9 : Pg.getN p ((A : Int) + 20) 2 = _ := g 20 2 (by omega) (by omega) (by omega)
  have g10 : Pg.getN p ((A : Int) + 22) 2 = _ := g 22 2 (by omega) (by omega) (by omega)
  unfold getI readH
  rw [g0, g1, g2, g3, g4, g5, g6, g7, g8, g9, g10]
/-- the numbers of an inode, each so large that it stands in its place -/
def fitsB (x : Ino) : Prop := (0 ≤ x.k ∧ x.k < 256) ∧ (0 ≤ x.p ∧ x.p < 65536) ∧ (0 ≤ x.u ∧ x.u < 65536) ∧ (0 ≤ x.l ∧ x.l < 65536) ∧ (0 ≤ x.s ∧ x.s < 4294967296) ∧ (0 ≤ x.a ∧ x.a < 65536) ∧ (0 ≤ x.b ∧ x.b < 65536) ∧ (0 ≤ x.c ∧ x.c < 65536) ∧ (0 ≤ x.d ∧ x.d < 65536) ∧ (0 ≤ x.e ∧ x.e < 65536) ∧ (0 ≤ x.f ∧ x.f < 65536)
theorem fit2 {v : Int} (h : 0 ≤ v ∧ v < 65536) : Pg.numOf (Pg.bytesN 2 v) = v := by
  rw [Pg.numOf_bytesN]
  exact Int.emod_eq_of_lt h.1 h.2
theorem fit1 {v : Int} (h : 0 ≤ v ∧ v < 256) : Pg.numOf (Pg.bytesN 1 v) = v := by
  rw [Pg.numOf_bytesN]
  exact Int.emod_eq_of_lt h.1 h.2
theorem fit4 {v : Int} (h : 0 ≤ v ∧ v < 4294967296) : Pg.numOf (Pg.bytesN 4 v) = v := by
  rw [Pg.numOf_bytesN]
  exact Int.emod_eq_of_lt h.1 h.2
theorem read_half (x : Ino) (h : fitsB x) : readH (half x) = x := by
  obtain ⟨h0, h1, h2, h3, h4, h5, h6, h7, h8, h9, h10⟩ := h
  have e : readH (half x) = ⟨Pg.numOf (Pg.bytesN 1 x.k), Pg.numOf (Pg.bytesN 2 x.p), Pg.numOf (Pg.bytesN 2 x.u), Pg.numOf (Pg.bytesN 2 x.l), Pg.numOf (Pg.bytesN 4 x.s), Pg.numOf (Pg.bytesN 2 x.a), Pg.numOf (Pg.bytesN 2 x.b), Pg.numOf (Pg.bytesN 2 x.c), Pg.numOf (Pg.bytesN 2 x.d), Pg.numOf (Pg.bytesN 2 x.e), Pg.numOf (Pg.bytesN 2 x.f)⟩ := rfl
  rw [e, fit1 h0, fit2 h1, fit2 h2, fit2 h3, fit4 h4, fit2 h5, fit2 h6, fit2 h7, fit2 h8, fit2 h9, fit2 h10]
/-- what was put is read, if it stands in its place -/
theorem get_put (p : List UInt8) (A : Nat) (x : Ino) (hp : p.length = 64) (hA : A + 32 ≤ 64) (h : fitsB x) : getI (putN p (A : Int) x) (A : Int) = x := by
  rw [putN_is p A x hp hA, getI_is _ _ hA, show 32 = (half x).length from rfl, over_drop p A (half x) (by rw [half_length]; omega), read_half x h]
/-- the other half stays -/
theorem get_other (p : List UInt8) (A B : Nat) (x : Ino) (hp : p.length = 64) (hA : A + 32 ≤ 64) (hB : B + 32 ≤ 64) (hd : B + 32 ≤ A ∨ A + 32 ≤ B) : getI (putN p (A : Int) x) (B : Int) = getI p (B : Int) := by
  rw [putN_is p A x hp hA, getI_is _ _ hB, getI_is _ _ hB, over_apart p A (half x) B 32 (by rw [half_length]; omega) (by rw [half_length]; omega)]

/-! ### right -/
/-- 0, or a data page -/
def numB (p i n : Int) : Bool := decide (n = 0 ∨ (Pl.dataN i ≤ n ∧ n < p))
def cntB (x : Ino) : Bool := decide (0 ≤ x.p ∧ x.p ≤ 511 ∧ 0 ≤ x.u ∧ x.u ≤ 65535 ∧ 0 ≤ x.l ∧ x.l ≤ 40 ∧ 0 ≤ x.s ∧ x.s ≤ 67840)
def numsB (p i : Int) (x : Ino) : Bool := numB p i x.a && numB p i x.b && numB p i x.c && numB p i x.d && numB p i x.e && numB p i x.f
def zeroB (x : Ino) : Bool := decide (x.k = 0 ∧ x.p = 0 ∧ x.u = 0 ∧ x.l = 0 ∧ x.s = 0 ∧ x.a = 0 ∧ x.b = 0 ∧ x.c = 0 ∧ x.d = 0 ∧ x.e = 0 ∧ x.f = 0)
def inB (p i : Int) (x : Ino) : Bool := if x.k = 0 then zeroB x else decide (1 ≤ x.k ∧ x.k ≤ 3) && (cntB x && numsB p i x)
def rightI (p i : Int) (x : Ino) : Bool := Pl.rightB p i && inB p i x
theorem num_fits {p i n : Int} (hp : p ≤ 512) (hd : 0 ≤ Pl.dataN i) (h : numB p i n = true) : 0 ≤ n ∧ n < 65536 := by
  have h := of_decide_eq_true h
  omega
theorem right_fits {p i : Int} {x : Ino} (h : rightI p i x = true) : fitsB x := by
  unfold rightI at h
  rw [Bool.and_eq_true] at h
  obtain ⟨h1, h2⟩ := h
  obtain ⟨r1, r2, r3, r4⟩ := Pl.right_yes h1
  have hd := Pl.data_bd r1 r2
  unfold inB at h2
  unfold fitsB
  by_cases hk : x.k = 0
  · rw [if_pos hk] at h2
    have hz := of_decide_eq_true h2
    omega
  · rw [if_neg hk] at h2
    unfold numsB at h2
    simp only [Bool.and_eq_true] at h2
    obtain ⟨k1, k2, ⟨⟨⟨⟨na, nb⟩, nc⟩, nd⟩, ne⟩, nf⟩ := h2
    have k1 := of_decide_eq_true k1
    have k2 := of_decide_eq_true k2
    have f := fun {n : Int} (h : numB p i n = true) => num_fits r3 (by omega) h
    exact ⟨by omega, by omega, by omega, by omega, by omega, f na, f nb, f nc, f nd, f ne, f nf⟩
end Go.Proofs.Ytchlhnpnenafnaa.Ii
