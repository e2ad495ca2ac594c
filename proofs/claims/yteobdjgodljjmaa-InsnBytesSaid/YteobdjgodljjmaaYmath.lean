/-
  Plain mathematics of instructions: which are right, their bytes, and what bytes are.
-/
namespace Go.Proofs.Yteobdjgodljjmaa.Y

/-- an instruction: Op, Dst, Src, Off, Imm -/
structure In where
  op : Int
  dst : Int
  src : Int
  off : Int
  imm : Int
deriving DecidableEq

def known (o : Int) : Bool := decide (o = 1 ∨ o = 2 ∨ (16 ≤ o ∧ o ≤ 27) ∨ (32 ≤ o ∧ o ≤ 40) ∨ (48 ≤ o ∧ o ≤ 56) ∨ o = 64 ∨ o = 80)
def hasImm (o : Int) : Bool := decide (o = 2 ∨ (21 ≤ o ∧ o ≤ 27) ∨ (37 ≤ o ∧ o ≤ 40))
def isJump (o : Int) : Bool := decide (32 ≤ o ∧ o ≤ 40)
def mem (o : Int) (l : List Int) : Bool := l.any (fun x => x == o)
def useDst (o : Int) : Bool := !mem o [32, 64, 80, 49, 52]
def useSrc (o : Int) : Bool := !mem o [32, 64, 80, 48, 51] && !hasImm o
def useOff (o : Int) : Bool := isJump o || mem o [48, 49, 51, 52, 55, 56]
def useImm (o : Int) : Bool := hasImm o || o == 64
def inB (u : Bool) (x lo hi : Int) : Bool := if u then decide (lo ≤ x ∧ x ≤ hi) else x == 0
def right (x : In) : Bool :=
  known x.op && inB (useDst x.op) x.dst 0 7 && inB (useSrc x.op) x.src 0 7 && inB (useOff x.op) x.off (-32768) 32767 && inB (useImm x.op) x.imm (-2147483648) 2147483647 && (!(x.op == 26 || x.op == 27) || decide (0 ≤ x.imm ∧ x.imm ≤ 63))
def all (l : List In) : Bool := l.all right && decide (0 < l.length ∧ l.length ≤ 64)

/-- a number's lowest bytes, the highest first -/
def byteAt (k : Nat) (n : Int) : UInt8 := UInt8.ofNat (n / 256 ^ k % 256).toNat
theorem byteAt_nat (k : Nat) (n : Int) : ((byteAt k n).toNat : Int) = n / 256 ^ k % 256 := by
  unfold byteAt
  have h0 := Int.emod_nonneg (n / 256 ^ k) (show (256 : Int) ≠ 0 by decide)
  have h1 := Int.emod_lt_of_pos (n / 256 ^ k) (show (0 : Int) < 256 by decide)
  rw [UInt8.toNat_ofNat']
  omega
def low : Nat → Int → List UInt8
  | 0, _ => []
  | k + 1, n => byteAt k n :: low k n
theorem low_length : ∀ (k : Nat) (n : Int), (low k n).length = k
  | 0, _ => rfl
  | k + 1, n => by rw [low, List.length_cons, low_length k n]
def bytes1 (x : In) : List UInt8 := low 1 x.op ++ low 1 (x.dst * 16 + x.src) ++ low 2 x.off ++ low 4 x.imm
theorem bytes1_length (x : In) : (bytes1 x).length = 8 := by simp [bytes1, low_length]
def bytes (l : List In) : List UInt8 := l.flatMap bytes1
theorem bytes_length (l : List In) : (bytes l).length = 8 * l.length := by
  induction l with
  | nil => rfl
  | cons x t ih => unfold bytes at ih ⊢; rw [List.flatMap_cons, List.length_append, ih, bytes1_length, List.length_cons]; omega
theorem bytes_app (a b : List In) : bytes (a ++ b) = bytes a ++ bytes b := by unfold bytes; rw [List.flatMap_append]

/-- two's complement of bytes -/
def numOf (l : List UInt8) : Int := l.foldl (fun n c => n * 256 + (c.toNat : Int)) 0
def signed (l : List UInt8) : Int := if numOf l ≥ 256 ^ l.length / 2 then numOf l - 256 ^ l.length else numOf l
def read1 (b : List UInt8) : In :=
  { op := ((b.getD 0 0).toNat : Int), dst := ((b.getD 1 0).toNat : Int) / 16, src := ((b.getD 1 0).toNat : Int) % 16, off := signed ((b.drop 2).take 2), imm := signed ((b.drop 4).take 4) }
def readAt (s : List UInt8) (k : Nat) : In := read1 ((s.drop (8 * k)).take 8)
def readN (s : List UInt8) (n : Nat) : List In := (List.range n).map (readAt s)
def fits (s : List UInt8) : Bool := decide (s.length % 8 = 0 ∧ s.length ≤ 512)
def read (s : List UInt8) : List In := readN s (s.length / 8)
def reads (s : List UInt8) : Bool := fits s && all (read s)

theorem byte_lt (c : UInt8) : (c.toNat : Int) < 256 := by have := c.toNat_lt; omega
theorem numOf_snoc (l : List UInt8) (c : UInt8) : numOf (l ++ [c]) = numOf l * 256 + (c.toNat : Int) := by
  unfold numOf; rw [List.foldl_append]; rfl
theorem numOf_bd (l : List UInt8) : 0 ≤ numOf l ∧ numOf l < 256 ^ l.length := by
  suffices h : ∀ (n : Nat) (l : List UInt8), l.length = n → 0 ≤ numOf l ∧ numOf l < 256 ^ n from h _ _ rfl
  intro n
  induction n with
  | zero => intro l h; rw [List.length_eq_zero_iff.1 h]; decide
  | succ n ih =>
    intro l h
    obtain ⟨c, t, rfl⟩ : ∃ c t, l = t ++ [c] := ⟨l.getLast (by intro e; rw [e] at h; simp at h), l.dropLast, (List.dropLast_concat_getLast _).symm⟩
    have := ih t (by simpa using h)
    rw [numOf_snoc, Int.pow_succ]
    have := byte_lt c
    omega
theorem numOf_four (l : List UInt8) (h : l.length ≤ 4) : 0 ≤ numOf l ∧ numOf l ≤ 4294967295 := by
  have h1 := numOf_bd l
  have : (256 : Int) ^ l.length ≤ 256 ^ 4 := by
    have : l.length = 0 ∨ l.length = 1 ∨ l.length = 2 ∨ l.length = 3 ∨ l.length = 4 := by omega
    rcases this with e | e | e | e | e <;> rw [e] <;> decide
  rw [show (256 : Int) ^ 4 = 4294967296 from rfl] at this
  omega
theorem low1 (n : Int) : low 1 n = [byteAt 0 n] := rfl
theorem low2 (n : Int) : low 2 n = [byteAt 1 n, byteAt 0 n] := rfl
theorem low4 (n : Int) : low 4 n = [byteAt 3 n, byteAt 2 n, byteAt 1 n, byteAt 0 n] := rfl
theorem b0 (n : Int) : ((byteAt 0 n).toNat : Int) = n % 256 := by rw [byteAt_nat]; simp
theorem b1 (n : Int) : ((byteAt 1 n).toNat : Int) = n / 256 % 256 := by rw [byteAt_nat]; rfl
theorem b2 (n : Int) : ((byteAt 2 n).toNat : Int) = n / 65536 % 256 := by rw [byteAt_nat]; rfl
theorem b3 (n : Int) : ((byteAt 3 n).toNat : Int) = n / 16777216 % 256 := by rw [byteAt_nat]; rfl
theorem bytes1_eq (x : In) : bytes1 x = [byteAt 0 x.op, byteAt 0 (x.dst * 16 + x.src), byteAt 1 x.off, byteAt 0 x.off, byteAt 3 x.imm, byteAt 2 x.imm, byteAt 1 x.imm, byteAt 0 x.imm] := rfl
theorem num2 (a b : UInt8) : numOf [a, b] = (a.toNat : Int) * 256 + b.toNat := by simp [numOf]
theorem num4 (a b c d : UInt8) : numOf [a, b, c, d] = (((a.toNat : Int) * 256 + b.toNat) * 256 + c.toNat) * 256 + d.toNat := by simp [numOf]
theorem signed2 (a b : UInt8) : signed [a, b] = if (a.toNat : Int) * 256 + b.toNat ≥ 32768 then (a.toNat : Int) * 256 + b.toNat - 65536 else (a.toNat : Int) * 256 + b.toNat := by
  unfold signed; rw [num2, show ([a, b] : List UInt8).length = 2 from rfl, show (256 : Int) ^ 2 = 65536 from rfl, show (65536 : Int) / 2 = 32768 from rfl]
theorem signed4 (a b c d : UInt8) : signed [a, b, c, d] = if (((a.toNat : Int) * 256 + b.toNat) * 256 + c.toNat) * 256 + d.toNat ≥ 2147483648 then (((a.toNat : Int) * 256 + b.toNat) * 256 + c.toNat) * 256 + d.toNat - 4294967296 else (((a.toNat : Int) * 256 + b.toNat) * 256 + c.toNat) * 256 + d.toNat := by
  unfold signed; rw [num4, show ([a, b, c, d] : List UInt8).length = 4 from rfl, show (256 : Int) ^ 4 = 4294967296 from rfl, show (4294967296 : Int) / 2 = 2147483648 from rfl]
theorem known_bd {o : Int} (h : known o = true) : 0 ≤ o ∧ o ≤ 80 := by
  unfold known at h; have := of_decide_eq_true h; omega
theorem in_bd {u : Bool} {x lo hi : Int} (hlo : lo ≤ 0) (hhi : 0 ≤ hi) (h : inB u x lo hi = true) : lo ≤ x ∧ x ≤ hi := by
  unfold inB at h
  cases u
  · simp at h; omega
  · simpa using h
structure Bd (x : In) : Prop where
  op : 0 ≤ x.op ∧ x.op ≤ 80
  dst : 0 ≤ x.dst ∧ x.dst ≤ 7
  src : 0 ≤ x.src ∧ x.src ≤ 7
  off : -32768 ≤ x.off ∧ x.off ≤ 32767
  imm : -2147483648 ≤ x.imm ∧ x.imm ≤ 2147483647
theorem right_bd {x : In} (h : right x = true) : Bd x := by
  unfold right at h
  simp only [Bool.and_eq_true] at h
  obtain ⟨⟨⟨⟨⟨h1, h2⟩, h3⟩, h4⟩, h5⟩, _⟩ := h
  exact ⟨known_bd h1, in_bd (by omega) (by omega) h2, in_bd (by omega) (by omega) h3, in_bd (by omega) (by omega) h4, in_bd (by omega) (by omega) h5⟩
/-- what is right comes back from its bytes -/
theorem read_bytes1 (x : In) (h : Bd x) : read1 (bytes1 x) = x := by
  obtain ⟨⟨o0, o1⟩, ⟨d0, d1⟩, ⟨s0, s1⟩, ⟨f0, f1⟩, ⟨i0, i1⟩⟩ := h
  obtain ⟨op, dst, src, off, imm⟩ := x
  rw [bytes1_eq]
  unfold read1
  simp only [List.getD_cons_zero, List.getD_cons_succ, List.drop_succ_cons, List.drop_zero, List.take_succ_cons, List.take_zero, signed2, signed4, b0, b1, b2, b3] at *
  congr 1
  · omega
  · omega
  · omega
  · split <;> omega
  · split <;> omega
theorem eight (b : List UInt8) (h : b.length = 8) : ∃ a0 a1 a2 a3 a4 a5 a6 a7, b = [a0, a1, a2, a3, a4, a5, a6, a7] := by
  match b, h with
  | [a0, a1, a2, a3, a4, a5, a6, a7], _ => exact ⟨a0, a1, a2, a3, a4, a5, a6, a7, rfl⟩
theorem byte_eq {c : UInt8} {n : Int} {k : Nat} (h : n / 256 ^ k % 256 = (c.toNat : Int)) : byteAt k n = c := by
  apply UInt8.toNat_inj.1
  have := byteAt_nat k n
  omega
theorem bytes_read1 (b : List UInt8) (h : b.length = 8) : bytes1 (read1 b) = b := by
  obtain ⟨a0, a1, a2, a3, a4, a5, a6, a7, rfl⟩ := eight b h
  rw [bytes1_eq]
  unfold read1
  simp only [List.getD_cons_zero, List.getD_cons_succ, List.drop_succ_cons, List.drop_zero, List.take_succ_cons, List.take_zero, signed2, signed4]
  have := byte_lt a0; have := byte_lt a1; have := byte_lt a2; have := byte_lt a3; have := byte_lt a4; have := byte_lt a5; have := byte_lt a6; have := byte_lt a7
  refine List.cons_eq_cons.2 ⟨byte_eq (by simp; omega), List.cons_eq_cons.2 ⟨byte_eq (by simp; omega), List.cons_eq_cons.2 ⟨byte_eq ?_, List.cons_eq_cons.2 ⟨byte_eq ?_, List.cons_eq_cons.2 ⟨byte_eq ?_, List.cons_eq_cons.2 ⟨byte_eq ?_, List.cons_eq_cons.2 ⟨byte_eq ?_, List.cons_eq_cons.2 ⟨byte_eq ?_, rfl⟩⟩⟩⟩⟩⟩⟩⟩
  · rw [show (256 : Int) ^ 1 = 256 by rfl]; split <;> omega
  · rw [show (256 : Int) ^ 0 = 1 by rfl]; split <;> omega
  · rw [show (256 : Int) ^ 3 = 16777216 by rfl]; split <;> omega
  · rw [show (256 : Int) ^ 2 = 65536 by rfl]; split <;> omega
  · rw [show (256 : Int) ^ 1 = 256 by rfl]; split <;> omega
  · rw [show (256 : Int) ^ 0 = 1 by rfl]; split <;> omega
theorem piece (a b : List In) (x : In) : ((bytes (a ++ x :: b)).drop (8 * a.length)).take 8 = bytes1 x := by
  rw [bytes_app, List.drop_append_of_le_length (by rw [bytes_length]; omega), ← bytes_length a, List.drop_length, List.nil_append]
  show (bytes1 x ++ bytes b).take 8 = _
  rw [← bytes1_length x, List.take_left']
  rfl
theorem all_bd {l : List In} (h : all l = true) : ∀ x ∈ l, Bd x := by
  unfold all at h
  simp only [Bool.and_eq_true] at h
  exact fun x hx => right_bd (List.all_eq_true.1 h.1 x hx)
theorem all_len {l : List In} (h : all l = true) : 0 < l.length ∧ l.length ≤ 64 := by
  unfold all at h
  simp only [Bool.and_eq_true] at h
  exact of_decide_eq_true h.2
theorem read_bytes (l : List In) (h : ∀ x ∈ l, Bd x) : read (bytes l) = l := by
  unfold read readN
  rw [bytes_length, Nat.mul_div_cancel_left _ (by decide)]
  apply List.ext_getElem
  · simp
  · intro i h1 h2
    simp only [List.length_map, List.length_range] at h1
    rw [List.getElem_map, List.getElem_range]
    unfold readAt
    have hs : l = l.take i ++ l[i] :: l.drop (i + 1) := by rw [← List.drop_eq_getElem_cons h1, List.take_append_drop]
    have hp := piece (l.take i) (l.drop (i + 1)) l[i]
    rw [← hs, List.length_take, Nat.min_eq_left (by omega)] at hp
    rw [hp]
    exact read_bytes1 _ (h _ (List.getElem_mem _))
theorem reads_bytes (l : List In) (h : all l = true) : reads (bytes l) = true ∧ read (bytes l) = l := by
  have e := read_bytes l (all_bd h)
  refine ⟨?_, e⟩
  unfold reads
  rw [e, h, Bool.and_true]
  unfold fits
  rw [bytes_length]
  have := all_len h
  exact decide_eq_true (by omega)
theorem bytes_readN (s : List UInt8) : ∀ n, 8 * n ≤ s.length → bytes (readN s n) = s.take (8 * n)
  | 0, _ => rfl
  | n + 1, h => by
    unfold readN
    rw [List.range_succ, List.map_append, bytes_app]
    show bytes (readN s n) ++ bytes [readAt s n] = _
    rw [bytes_readN s n (by omega), show bytes [readAt s n] = bytes1 (readAt s n) by unfold bytes; simp]
    unfold readAt
    rw [bytes_read1 _ (by rw [List.length_take, List.length_drop]; omega), show 8 * (n + 1) = 8 * n + 8 by omega, List.take_add]
theorem bytes_read (s : List UInt8) (h : s.length % 8 = 0) : bytes (read s) = s := by
  unfold read
  rw [bytes_readN s _ (by omega)]
  exact List.take_of_length_le (by omega)
end Go.Proofs.Yteobdjgodljjmaa.Y
