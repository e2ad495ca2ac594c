/-
  Plain mathematics of instructions: which are right, their bytes, and what bytes are.
-/
import Derived.Test.YthngbakbiocadaaRows
import Derived.WalkKit
import Derived.WalkSpells
import Derived.WalkLawsBesides
import Derived.Laws.BitsAllLaws
import Derived.Lib.Hide
import Derived.Deep.MidRow
import Derived.ChangeKeysEq
import Derived.Below
import Derived.BigQuiet
import Derived.ProofKit
import Derived.OpenShut
import Derived.ChangeMaps5
import Derived.ShutString
import Derived.ChangeOld
import Derived.Lib.SmallJoins
import Derived.Deep.Slices
import Derived.Maps.AppendAt
import Derived.OwnWalk

namespace Go.Proofs.Ythngbakbiocadaa.Y
set_option maxRecDepth 100000

/-- an instruction: Op, Dst, Src, Off, Imm -/
structure In where
  op : Int
  dst : Int
  src : Int
  off : Int
  imm : Int
deriving DecidableEq

def known (o : Int) : Bool := decide (o = 1 ∨ o = 2 ∨ (16 ≤ o ∧ o ≤ 27) ∨ (32 ≤ o ∧ o ≤ 40) ∨ (48 ≤ o ∧ o ≤ 56) ∨ o = 64 ∨ o = 80)
def hasImm (o : Int) : Bool := decide (o = 2 ∨ (21 ≤ o ∧ o ≤ 27) ∨ (37 ≤ o ∧ o ≤ 40))
def isJump (o : Int) : Bool := decide (32 ≤ o ∧ o ≤ 40)
def mem (o : Int) (l : List Int) : Bool := l.any (fun x => x == o)
def useDst (o : Int) : Bool := !mem o [32, 64, 80, 49, 52]
def useSrc (o : Int) : Bool := !mem o [32, 64, 80, 48, 51] && !hasImm o
def useOff (o : Int) : Bool := isJump o || mem o [48, 49, 51, 52, 55, 56]
def useImm (o : Int) : Bool := hasImm o || o == 64
def inB (u : Bool) (x lo hi : Int) : Bool := if u then decide (lo ≤ x ∧ x ≤ hi) else x == 0
def right (x : In) : Bool :=
  known x.op && inB (useDst x.op) x.dst 0 7 && inB (useSrc x.op) x.src 0 7 && inB (useOff x.op) x.off (-32768) 32767 && inB (useImm x.op) x.imm (-2147483648) 2147483647 && (!(x.op == 26 || x.op == 27) || decide (0 ≤ x.imm ∧ x.imm ≤ 63))
def all (l : List In) : Bool := l.all right && decide (0 < l.length ∧ l.length ≤ 64)

/-- a number's lowest bytes, the highest first -/
def byteAt (k : Nat) (n : Int) : UInt8 := UInt8.ofNat (n / 256 ^ k % 256).toNat
theorem byteAt_nat (k : Nat) (n : Int) : ((byteAt k n).toNat : Int) = n / 256 ^ k % 256 := by
  unfold byteAt
  have h0 := Int.emod_nonneg (n / 256 ^ k) (show (256 : Int) ≠ 0 by decide)
  have h1 := Int.emod_lt_of_pos (n / 256 ^ k) (show (0 : Int) < 256 by decide)
  rw [UInt8.toNat_ofNat']
  omega
def low : Nat → Int → List UInt8
  | 0, _ => []
  | k + 1, n => byteAt k n :: low k n
theorem low_length : ∀ (k : Nat) (n : Int), (low k n).length = k
  | 0, _ => rfl
  | k + 1, n => by rw [low, List.length_cons, low_length k n]
def bytes1 (x : In) : List UInt8 := low 1 x.op ++ low 1 (x.dst * 16 + x.src) ++ low 2 x.off ++ low 4 x.imm
theorem bytes1_length (x : In) : (bytes1 x).length = 8 := by simp [bytes1, low_length]
def bytes (l : List In) : List UInt8 := l.flatMap bytes1
theorem bytes_length (l : List In) : (bytes l).length = 8 * l.length := by
  induction l with
  | nil => rfl
  | cons x t ih => unfold bytes at ih ⊢; rw [List.flatMap_cons, List.length_append, ih, bytes1_length, List.length_cons]; omega
theorem bytes_app (a b : List In) : bytes (a ++ b) = bytes a ++ bytes b := by unfold bytes; rw [List.flatMap_append]

/-- two's complement of bytes -/
def numOf (l : List UInt8) : Int := l.foldl (fun n c => n * 256 + (c.toNat : Int)) 0
def signed (l : List UInt8) : Int := if numOf l ≥ 256 ^ l.length / 2 then numOf l - 256 ^ l.length else numOf l
def read1 (b : List UInt8) : In :=
  { op := ((b.getD 0 0).toNat : Int), dst := ((b.getD 1 0).toNat : Int) / 16, src := ((b.getD 1 0).toNat : Int) % 16, off := signed ((b.drop 2).take 2), imm := signed ((b.drop 4).take 4) }
def readAt (s : List UInt8) (k : Nat) : In := read1 ((s.drop (8 * k)).take 8)
def readN (s : List UInt8) (n : Nat) : List In := (List.range n).map (readAt s)
def fits (s : List UInt8) : Bool := decide (s.length % 8 = 0 ∧ s.length ≤ 512)
def read (s : List UInt8) : List In := readN s (s.length / 8)
def reads (s : List UInt8) : Bool := fits s && all (read s)

theorem byte_lt (c : UInt8) : (c.toNat : Int) < 256 := by have := c.toNat_lt; omega
theorem numOf_snoc (l : List UInt8) (c : UInt8) : numOf (l ++ [c]) = numOf l * 256 + (c.toNat : Int) := by
  unfold numOf; rw [List.foldl_append]; rfl
theorem numOf_bd (l : List UInt8) : 0 ≤ numOf l ∧ numOf l < 256 ^ l.length := by
  suffices h : ∀ (n : Nat) (l : List UInt8), l.length = n → 0 ≤ numOf l ∧ numOf l < 256 ^ n from h _ _ rfl
  intro n
  induction n with
  | zero => intro l h; rw [List.length_eq_zero_iff.1 h]; decide
  | succ n ih =>
    intro l h
    obtain ⟨c, t, rfl⟩ : ∃ c t, l = t ++ [c] := ⟨l.getLast (by intro e; rw [e] at h; simp at h), l.dropLast, (List.dropLast_concat_getLast _).symm⟩
    have := ih t (by simpa using h)
    rw [numOf_snoc, Int.pow_succ]
    have := byte_lt c
    omega
theorem numOf_four (l : List UInt8) (h : l.length ≤ 4) : 0 ≤ numOf l ∧ numOf l ≤ 4294967295 := by
  have h1 := numOf_bd l
  have : (256 : Int) ^ l.length ≤ 256 ^ 4 := by
    have : l.length = 0 ∨ l.length = 1 ∨ l.length = 2 ∨ l.length = 3 ∨ l.length = 4 := by omega
    rcases this with e | e | e | e | e <;> rw [e] <;> decide
  rw [show (256 : Int) ^ 4 = 4294967296 from rfl] at this
  omega
theorem low1 (n : Int) : low 1 n = [byteAt 0 n] := rfl
theorem low2 (n : Int) : low 2 n = [byteAt 1 n, byteAt 0 n] := rfl
theorem low4 (n : Int) : low 4 n = [byteAt 3 n, byteAt 2 n, byteAt 1 n, byteAt 0 n] := rfl
theorem b0 (n : Int) : ((byteAt 0 n).toNat : Int) = n % 256 := by rw [byteAt_nat]; simp
theorem b1 (n : Int) : ((byteAt 1 n).toNat : Int) = n / 256 % 256 := by rw [byteAt_nat]; rfl
theorem b2 (n : Int) : ((byteAt 2 n).toNat : Int) = n / 65536 % 256 := by rw [byteAt_nat]; rfl
theorem b3 (n : Int) : ((byteAt 3 n).toNat : Int) = n / 16777216 % 256 := by rw [byteAt_nat]; rfl
theorem bytes1_eq (x : In) : bytes1 x = [byteAt 0 x.op, byteAt 0 (x.dst * 16 + x.src), byteAt 1 x.off, byteAt 0 x.off, byteAt 3 x.imm, byteAt 2 x.imm, byteAt 1 x.imm, byteAt 0 x.imm] := rfl
theorem num2 (a b : UInt8) : numOf [a, b] = (a.toNat : Int) * 256 + b.toNat := by simp [numOf]
theorem num4 (a b c d : UInt8) : numOf [a, b, c, d] = (((a.toNat : Int) * 256 + b.toNat) * 256 + c.toNat) * 256 + d.toNat := by simp [numOf]
theorem signed2 (a b : UInt8) : signed [a, b] = if (a.toNat : Int) * 256 + b.toNat ≥ 32768 then (a.toNat : Int) * 256 + b.toNat - 65536 else (a.toNat : Int) * 256 + b.toNat := by
  unfold signed; rw [num2, show ([a, b] : List UInt8).length = 2 from rfl, show (256 : Int) ^ 2 = 65536 from rfl, show (65536 : Int) / 2 = 32768 from rfl]
theorem signed4 (a b c d : UInt8) : signed [a, b, c, d] = if (((a.toNat : Int) * 256 + b.toNat) * 256 + c.toNat) * 256 + d.toNat ≥ 2147483648 then (((a.toNat : Int) * 256 + b.toNat) * 256 + c.toNat) * 256 + d.toNat - 4294967296 else (((a.toNat : Int) * 256 + b.toNat) * 256 + c.toNat) * 256 + d.toNat := by
  unfold signed; rw [num4, show ([a, b, c, d] : List UInt8).length = 4 from rfl, show (256 : Int) ^ 4 = 4294967296 from rfl, show (4294967296 : Int) / 2 = 2147483648 from rfl]
theorem known_bd {o : Int} (h : known o = true) : 0 ≤ o ∧ o ≤ 80 := by
  unfold known at h; have := of_decide_eq_true h; omega
theorem in_bd {u : Bool} {x lo hi : Int} (hlo : lo ≤ 0) (hhi : 0 ≤ hi) (h : inB u x lo hi = true) : lo ≤ x ∧ x ≤ hi := by
  unfold inB at h
  cases u
  · simp at h; omega
  · simpa using h
structure Bd (x : In) : Prop where
  op : 0 ≤ x.op ∧ x.op ≤ 80
  dst : 0 ≤ x.dst ∧ x.dst ≤ 7
  src : 0 ≤ x.src ∧ x.src ≤ 7
  off : -32768 ≤ x.off ∧ x.off ≤ 32767
  imm : -2147483648 ≤ x.imm ∧ x.imm ≤ 2147483647
theorem right_bd {x : In} (h : right x = true) : Bd x := by
  unfold right at h
  simp only [Bool.and_eq_true] at h
  obtain ⟨⟨⟨⟨⟨h1, h2⟩, h3⟩, h4⟩, h5⟩, _⟩ := h
  exact ⟨known_bd h1, in_bd (by omega) (by omega) h2, in_bd (by omega) (by omega) h3, in_bd (by omega) (by omega) h4, in_bd (by omega) (by omega) h5⟩
/-- what is right comes back from its bytes -/
theorem read_bytes1 (x : In) (h : Bd x) : read1 (bytes1 x) = x := by
  obtain ⟨⟨o0, o1⟩, ⟨d0, d1⟩, ⟨s0, s1⟩, ⟨f0, f1⟩, ⟨i0, i1⟩⟩ := h
  obtain ⟨op, dst, src, off, imm⟩ := x
  rw [bytes1_eq]
  unfold read1
  simp only [List.getD_cons_zero, List.getD_cons_succ, List.drop_succ_cons, List.drop_zero, List.take_succ_cons, List.take_zero, signed2, signed4, b0, b1, b2, b3] at *
  congr 1
  · omega
  · omega
  · omega
  · split <;> omega
  · split <;> omega
theorem eight (b : List UInt8) (h : b.length = 8) : ∃ a0 a1 a2 a3 a4 a5 a6 a7, b = [a0, a1, a2, a3, a4, a5, a6, a7] := by
  match b, h with
  | [a0, a1, a2, a3, a4, a5, a6, a7], _ => exact ⟨a0, a1, a2, a3, a4, a5, a6, a7, rfl⟩
theorem byte_eq {c : UInt8} {n : Int} {k : Nat} (h : n / 256 ^ k % 256 = (c.toNat : Int)) : byteAt k n = c := by
  apply UInt8.toNat_inj.1
  have := byteAt_nat k n
  omega
theorem bytes_read1 (b : List UInt8) (h : b.length = 8) : bytes1 (read1 b) = b := by
  obtain ⟨a0, a1, a2, a3, a4, a5, a6, a7, rfl⟩ := eight b h
  rw [bytes1_eq]
  unfold read1
  simp only [List.getD_cons_zero, List.getD_cons_succ, List.drop_succ_cons, List.drop_zero, List.take_succ_cons, List.take_zero, signed2, signed4]
  have := byte_lt a0; have := byte_lt a1; have := byte_lt a2; have := byte_lt a3; have := byte_lt a4; have := byte_lt a5; have := byte_lt a6; have := byte_lt a7
  refine List.cons_eq_cons.2 ⟨byte_eq (by simp; omega), List.cons_eq_cons.2 ⟨byte_eq (by simp; omega), List.cons_eq_cons.2 ⟨byte_eq ?_, List.cons_eq_cons.2 ⟨byte_eq ?_, List.cons_eq_cons.2 ⟨byte_eq ?_, List.cons_eq_cons.2 ⟨byte_eq ?_, List.cons_eq_cons.2 ⟨byte_eq ?_, List.cons_eq_cons.2 ⟨byte_eq ?_, rfl⟩⟩⟩⟩⟩⟩⟩⟩
  · rw [show (256 : Int) ^ 1 = 256 by rfl]; split <;> omega
  · rw [show (256 : Int) ^ 0 = 1 by rfl]; split <;> omega
  · rw [show (256 : Int) ^ 3 = 16777216 by rfl]; split <;> omega
  · rw [show (256 : Int) ^ 2 = 65536 by rfl]; split <;> omega
  · rw [show (256 : Int) ^ 1 = 256 by rfl]; split <;> omega
  · rw [show (256 : Int) ^ 0 = 1 by rfl]; split <;> omega
theorem piece (a b : List In) (x : In) : ((bytes (a ++ x :: b)).drop (8 * a.length)).take 8 = bytes1 x := by
  rw [bytes_app, List.drop_append_of_le_length (by rw [bytes_length]; omega), ← bytes_length a, List.drop_length, List.nil_append]
  show (bytes1 x ++ bytes b).take 8 = _
  rw [← bytes1_length x, List.take_left']
  rfl
theorem all_bd {l : List In} (h : all l = true) : ∀ x ∈ l, Bd x := by
  unfold all at h
  simp only [Bool.and_eq_true] at h
  exact fun x hx => right_bd (List.all_eq_true.1 h.1 x hx)
theorem all_len {l : List In} (h : all l = true) : 0 < l.length ∧ l.length ≤ 64 := by
  unfold all at h
  simp only [Bool.and_eq_true] at h
  exact of_decide_eq_true h.2
theorem read_bytes (l : List In) (h : ∀ x ∈ l, Bd x) : read (bytes l) = l := by
  unfold read readN
  rw [bytes_length, Nat.mul_div_cancel_left _ (by decide)]
  apply List.ext_getElem
  · simp
  · intro i h1 h2
    simp only [List.length_map, List.length_range] at h1
    rw [List.getElem_map, List.getElem_range]
    unfold readAt
    have hs : l = l.take i ++ l[i] :: l.drop (i + 1) := by rw [← List.drop_eq_getElem_cons h1, List.take_append_drop]
    have hp := piece (l.take i) (l.drop (i + 1)) l[i]
    rw [← hs, List.length_take, Nat.min_eq_left (by omega)] at hp
    rw [hp]
    exact read_bytes1 _ (h _ (List.getElem_mem _))
theorem reads_bytes (l : List In) (h : all l = true) : reads (bytes l) = true ∧ read (bytes l) = l := by
  have e := read_bytes l (all_bd h)
  refine ⟨?_, e⟩
  unfold reads
  rw [e, h, Bool.and_true]
  unfold fits
  rw [bytes_length]
  have := all_len h
  exact decide_eq_true (by omega)
theorem bytes_readN (s : List UInt8) : ∀ n, 8 * n ≤ s.length → bytes (readN s n) = s.take (8 * n)
  | 0, _ => rfl
  | n + 1, h => by
    unfold readN
    rw [List.range_succ, List.map_append, bytes_app]
    show bytes (readN s n) ++ bytes [readAt s n] = _
    rw [bytes_readN s n (by omega), show bytes [readAt s n] = bytes1 (readAt s n) by unfold bytes; simp]
    unfold readAt
    rw [bytes_read1 _ (by rw [List.length_take, List.length_drop]; omega), show 8 * (n + 1) = 8 * n + 8 by omega, List.take_add]
theorem bytes_read (s : List UInt8) (h : s.length % 8 = 0) : bytes (read s) = s := by
  unfold read
  rw [bytes_readN s _ (by omega)]
  exact List.take_of_length_le (by omega)
end Go.Proofs.Ythngbakbiocadaa.Y

/-
  The base of the plain stages: structs and rows in memory, slices of structs that came in and that a call makes, regions gone through in one order, results, arguments opened.
-/
namespace Go.Proofs.Ythngbakbiocadaa
set_option maxRecDepth 100000
open Go.ChangeShapes Go.WideShapes Go.ChangeAt Go.RowKit Go.Maps

theorem ret_int {k : IntKind} {a b : Int} (h : a = b) : Ending.returned (.int k a) = .returned (.int k b) := by rw [h]
theorem ret_bool {a b : Bool} (h : a = b) : Ending.returned (.bool a) = .returned (.bool b) := by rw [h]
theorem ret_str {a b : ByteArray} (h : a = b) : Ending.returned (.string a) = .returned (.string b) := by rw [h]
theorem laidOut : laidOutB Try.prog = true := by kernel_rfl
theorem own : ownKnob Try.prog.godebug = none := by kernel_rfl
theorem results_tmp3 {fn : Func} {t u v : Tmp} (h : fn.results = #[.tmp t, .tmp u, .tmp v]) (tmps : Array Value) (P : Program) (w : World) :
    (results fn tmps).run P w = .ok (.tuple #[tmps.getD t undef, tmps.getD u undef, tmps.getD v undef]) w := by
  simp [results, h]
theorem results_tmp4 {fn : Func} {t u v x : Tmp} (h : fn.results = #[.tmp t, .tmp u, .tmp v, .tmp x]) (tmps : Array Value) (P : Program) (w : World) :
    (results fn tmps).run P w = .ok (.tuple #[tmps.getD t undef, tmps.getD u undef, tmps.getD v undef, tmps.getD x undef]) w := by
  simp [results, h]
theorem there_new (w : World) (Z : Array Value) (t : TypeId) (n : Nat) (h : n ≤ Z.size) : (w.alloc (.cells Z t)).there w.heap.size 0 n := by
  intro j hj
  rw [Nat.zero_add, World.cell?_alloc_mark, World.frozen?_alloc_mark, Array.getElem?_eq_getElem (by omega)]
  exact ⟨rfl, by simp⟩
theorem below_setCells {B : Nat} {a : World} (b : Nat) (hb : B ≤ b) : ∀ (vs : List Value) (o : Nat) (w : World), Below B a w → Below B a (w.setCells b o vs)
  | [], _, _, h => h
  | v :: r, o, w, h => by
    rw [World.setCells]
    exact below_setCells b hb r (o + 1) _ (h.setCell (by exact hb) v)
theorem heap_setCells (b : Nat) : ∀ (vs : List Value) (o : Nat) (w : World), (w.setCells b o vs).heap.size = w.heap.size
  | [], _, _ => rfl
  | v :: r, o, w => by
    rw [World.setCells, heap_setCells b r (o + 1)]; simp
theorem below_drewN (w : World) (n : Nat) : Below w.heap.size w (w.drewN n) := ⟨rfl, rfl, rfl, Nat.le_refl _, fun _ _ => rfl⟩
/-- a row of cells in a block of its own, that may be written -/
structure RowAt (w : World) (b : Nat) (vs : List Value) : Prop where
  range : w.rangeAt b 0 vs
  free : w.there b 0 vs.length
theorem RowAt.cell {w : World} {b : Nat} {vs : List Value} (h : RowAt w b vs) (j : Nat) (v : Value) (hv : vs[j]? = some v) : w.cell? ⟨b, j, none⟩ = some v := by
  have := h.range j v hv
  rwa [Nat.zero_add] at this
theorem RowAt.frozen {w : World} {b : Nat} {vs : List Value} (h : RowAt w b vs) (j : Nat) (hj : j < vs.length) : w.frozen? ⟨b, j, none⟩ = false := by
  have := (h.free j hj).2
  rwa [Nat.zero_add] at this
theorem RowAt.lt {w : World} {b : Nat} {v : Value} {vs : List Value} (h : RowAt w b (v :: vs)) : b < w.heap.size := World.block_lt_of_cell? w _ (h.cell 0 v rfl)
theorem rowAt_new (w : World) (vs : List Value) (t : TypeId) : RowAt (w.alloc (.cells vs.toArray t)) w.heap.size vs where
  range := fun j v hv => by
    rw [Nat.zero_add, World.cell?_alloc_mark]
    simpa using hv
  free := there_new w _ t _ (by rw [List.size_toArray]; exact Nat.le_refl _)
theorem RowAt.alloc {w : World} {b : Nat} {vs : List Value} (h : RowAt w b vs) (o : Obj) : RowAt (w.alloc o) b vs := ⟨World.rangeAt_alloc h.range o, World.there_alloc h.free o⟩
theorem RowAt.drew {w : World} {b : Nat} {vs : List Value} (h : RowAt w b vs) : RowAt w.drew b vs := ⟨(World.rangeAt_drew ..).2 h.range, (World.there_drew ..).2 h.free⟩
theorem RowAt.below {n : Nat} {w w' : World} {b : Nat} {vs : List Value} (h : RowAt w b vs) (hb : Below n w w') (hn : b < n) : RowAt w' b vs where
  range := fun j v hv => (hb.cell (p := ⟨b, 0 + j, none⟩) hn).trans (h.range j v hv)
  free := fun j hj => by
    rw [hb.cell (p := ⟨b, 0 + j, none⟩) hn, hb.frozen (p := ⟨b, 0 + j, none⟩) hn]
    exact h.free j hj
theorem RowAt.step {w w' : World} {b : Nat} {v : Value} {vs : List Value} (h : RowAt w b (v :: vs)) (hb : Below w.heap.size w w') : RowAt w' b (v :: vs) := h.below hb h.lt
theorem RowAt.put {w : World} {b : Nat} {vs : List Value} (h : RowAt w b vs) (us : List Value) (hl : us.length = vs.length) : RowAt (w.setCells b 0 us) b us where
  range := World.rangeAt_setCells_same _ _ _ _ (by rw [hl]; exact h.free)
  free := World.there_setCells (by rw [hl]; exact h.free) _ _ _
theorem RowAt.put_other {w : World} {b : Nat} {vs : List Value} (h : RowAt w b vs) (b' o : Nat) (us : List Value) (hb : b ≠ b') : RowAt (w.setCells b' o us) b vs where
  range := World.rangeAt_setCells_apart h.range _ _ _ (Or.inl hb)
  free := World.there_setCells h.free _ _ _
/-- a struct's type: how many cells it has -/
structure RowT (t : TypeId) (n : Nat) : Prop where
  row : ∃ d, Try.prog.underlying t = some d ∧ d.isRow = true
  info : (Try.prog.info? t).map (·.size) = some n
theorem RowAt.loads {t : TypeId} {n : Nat} (ht : RowT t n) {w : World} {b : Nat} {vs : List Value} (k : RowAt w b vs) (hl : vs.length = n) : (loadVar t ⟨b, 0, none⟩).run Try.prog w = .ok (.agg vs.toArray) w := by
  obtain ⟨d, hd, hr⟩ := ht.row
  exact run_loadVar_mid (P := Try.prog) w b 0 t vs d k.range hd hr (by rw [ht.info, hl])
theorem wpList_load_row {t : TypeId} {n : Nat} (ht : RowT t n) {ops : Array Oper} {rest : List Oper} {op : Oper} {a : Act} {Q : Exit → Act → World → Prop} {w : World} {b : Nat} {vs : List Value} (k : RowAt w b vs) (hl : vs.length = n) (hgd : op.guard = none) (x : Operand) (ho : op.op = .load t x)
    (hx : a.eval x = .pointer (some ⟨b, 0, none⟩)) (hn : wpList Try.prog ops Q rest (a.put op.dst (.agg vs.toArray)) w) : wpList Try.prog ops Q (op :: rest) a w := by
  obtain ⟨d, hd, hr⟩ := ht.row
  exact wpList_load_mid hgd t x ho b 0 hx vs d k.range hd hr (by rw [ht.info, hl]) hn
theorem wpList_loadg_row {t : TypeId} {n : Nat} (ht : RowT t n) {ops : Array Oper} {rest : List Oper} {op : Oper} {a : Act} {Q : Exit → Act → World → Prop} {w : World} {b : Nat} {vs : List Value} (k : RowAt w b vs) (hl : vs.length = n) (x : Operand) (ho : op.op = .load t x)
    (hx : a.eval x = .pointer (some ⟨b, 0, none⟩)) (hw : Region.wanted op (yielded ops a.tmps) = true) (hn : wpList Try.prog ops Q rest (a.put op.dst (.agg vs.toArray)) w) : wpList Try.prog ops Q (op :: rest) a w := by
  obtain ⟨d, hd, hr⟩ := ht.row
  exact BigFrame.wpList_want hw fun _ hK => wp_load_mid t x ho b 0 hx vs d k.range hd hr (by rw [ht.info, hl]) (hK _ _ hn)
theorem wpList_store_row {t : TypeId} {n : Nat} (ht : RowT t n) {ops : Array Oper} {rest : List Oper} {op : Oper} {a : Act} {Q : Exit → Act → World → Prop} {w : World} {b : Nat} {us vs : List Value} (k : RowAt w b us) (hu : us.length = n) (hl : vs.length = n) (ho1 : ∀ v ∈ vs, v.oneCell' = true) (hgd : op.guard = none) (x y : Operand) (ho : op.op = .store t x y)
    (hx : a.eval x = .pointer (some ⟨b, 0, none⟩)) (hy : a.eval y = .agg vs.toArray) (hn : wpList Try.prog ops Q rest (a.put op.dst undef) (w.setCells b 0 vs)) : wpList Try.prog ops Q (op :: rest) a w :=
  wpList_store_mid hgd t x y ho b 0 vs.toArray hx hy (by rw [List.size_toArray, hl, ← hu]; exact k.free) (by rw [ht.info, List.size_toArray, hl]) (all_oneCell_toArray ho1) (by simpa using hn)
theorem wpList_store_newrow {t : TypeId} {n : Nat} (ht : RowT t n) {ops : Array Oper} {rest : List Oper} {op : Oper} {a : Act} {Q : Exit → Act → World → Prop} {w : World} {Z : Array Value} {u : TypeId} {vs : List Value} (hl : vs.length = n) (ho1 : ∀ v ∈ vs, v.oneCell' = true) (hgd : op.guard = none) (x y : Operand) (ho : op.op = .store t x y)
    (hx : a.eval x = .pointer (some ⟨w.heap.size, 0, none⟩)) (hy : a.eval y = .agg vs.toArray) (hZ : Z.size = n)
    (hn : ∀ W2, RowAt W2 w.heap.size vs → Below w.heap.size w W2 → W2.heap.size = w.heap.size + 1 → wpList Try.prog ops Q rest (a.put op.dst undef) W2) :
    wpList Try.prog ops Q (op :: rest) a (w.alloc (.cells Z u)) := by
  have hth : (w.alloc (.cells Z u)).there w.heap.size 0 vs.length := there_new w Z u _ (by omega)
  refine wpList_store_mid hgd t x y ho w.heap.size 0 vs.toArray hx hy (by rw [List.size_toArray]; exact hth) (by rw [ht.info, List.size_toArray, hl]) (all_oneCell_toArray ho1) (hn _ ?_ ?_ ?_)
  · exact ⟨World.rangeAt_setCells_same _ _ _ _ hth, World.there_setCells hth _ _ _⟩
  · exact below_setCells _ (Nat.le_refl _) _ _ _ ((Below.refl _ _).alloc (Nat.le_refl _) _)
  · rw [heap_setCells]; simp
/-- results: a struct in a block, and a plain value -/
theorem results_row {t : TypeId} {n : Nat} (ht : RowT t n) (fn : Func) (s : Nat) (hf : fn.results = #[.cell s t]) {w : World} {b : Nat} {vs : List Value} (tmps : Array Value) (k : RowAt w b vs) (hl : vs.length = n) (hs : tmps.getD s undef = .pointer (some ⟨b, 0, none⟩)) :
    (results fn tmps).run Try.prog w = .ok (.agg vs.toArray) w := by
  have hl := k.loads ht hl
  unfold results
  rw [hf]
  simp only [Array.mapM_eq_mapM_toList, List.mapM_cons, List.mapM_nil, hs, asAddr, Sem.run_bind, Sem.run_pure, Result.andThen_ok, hl, Sem.run_map]
  rfl
theorem results_row2 {t : TypeId} {n : Nat} (ht : RowT t n) (fn : Func) (s r : Nat) (hf : fn.results = #[.cell s t, .tmp r]) {w : World} {b : Nat} {vs : List Value} {v : Value} (tmps : Array Value) (k : RowAt w b vs) (hl : vs.length = n) (hs : tmps.getD s undef = .pointer (some ⟨b, 0, none⟩)) (hr : tmps.getD r undef = v) :
    (results fn tmps).run Try.prog w = .ok (.tuple #[.agg vs.toArray, v]) w := by
  have hl := k.loads ht hl
  unfold results
  rw [hf]
  simp only [Array.mapM_eq_mapM_toList, List.mapM_cons, List.mapM_nil, hs, hr, asAddr, Sem.run_bind, Sem.run_pure, Result.andThen_ok, hl, Sem.run_map]
  rfl
theorem wp_region_class {id : Nat} {C : World → Prop} {Q : Exit → Act → World → Prop} {a : Act} {w : World} {l : List Oper} (hB : Region.lexB .any l.toArray = true) (hC : C { w with drawn := w.drawn + 1 })
    (h : wpQuiet Try.prog l.toArray C (fun a' => ∀ w', C w' → Q .normal a' w') l a) : (Code.region id l.toArray true).wp Try.prog Q a w :=
  wp_region_quiet (C := C) (by kernel_rfl) hB hC (by simpa using h)
theorem wpQuiet_take {ops : Array Oper} {rest : List Oper} {op : Oper} {a : Act} {Q : Act → Prop} {C : World → Prop} (v : Value) (hw : Region.wanted op (yielded ops a.tmps) = true) (hrun : ∀ w, C w → (execOp a.eval op).run Try.prog w = .ok (.value v) w)
    (h : wpQuiet Try.prog ops C Q rest (a.put op.dst v)) : wpQuiet Try.prog ops C Q (op :: rest) a := by
  refine wpQuiet_step (fun K hK => ?_)
  rw [if_pos hw]
  refine ⟨v, fun w hC => ?_, hK _ h⟩
  unfold Oper.quietAt
  rw [hrun w hC]
  exact ⟨rfl, rfl⟩
theorem wpQuiet_call {ops : Array Oper} {rest : List Oper} {op : Oper} {a : Act} {Q : Act → Prop} {C : World → Prop} (f : FuncId) (args : Array Value) (v : Value) (hw : Region.wanted op (yielded ops a.tmps) = true) (hrun : ∀ w, (execOp a.eval op).run Try.prog w = .ok (.enter f args) w)
    (hcall : ∀ w, C w → Calls Try.prog f args w fun e w' => e = .returned v ∧ C w') (h : wpQuiet Try.prog ops C Q rest (a.put op.dst v)) : wpQuiet Try.prog ops C Q (op :: rest) a := by
  refine wpQuiet_step (fun K hK => ?_)
  rw [if_pos hw]
  refine ⟨v, fun w hC => ?_, hK _ h⟩
  unfold Oper.quietAt
  rw [hrun w]
  exact ⟨rfl, hcall w hC⟩
theorem wpQuiet_row {ops : Array Oper} {rest : List Oper} {op : Oper} {a : Act} {Q : Act → Prop} {C : World → Prop} {t : TypeId} {n b : Nat} {vs : List Value} (ht : RowT t n) (hl : vs.length = n) (x : Operand) (ho : op.op = .load t x) (hx : a.eval x = .pointer (some ⟨b, 0, none⟩)) (hw : Region.wanted op (yielded ops a.tmps) = true)
    (hC : ∀ w, C w → RowAt w b vs) (h : wpQuiet Try.prog ops C Q rest (a.put op.dst (.agg vs.toArray))) : wpQuiet Try.prog ops C Q (op :: rest) a := by
  refine wpQuiet_take (.agg vs.toArray) hw (fun w hc => ?_) h
  unfold execOp
  have := (hC w hc).loads ht hl
  simp only [ho, hx, Instr.loadAt, Instr.sureAddr, Sem.run_bind, Sem.run_pure, Result.andThen_ok, this]
structure RowsS (w0 : World) (l : List (Nat × List Value)) (W : World) : Prop where
  rows : ∀ x ∈ l, RowAt W x.1 x.2 ∧ 0 < x.2.length
  below : Below w0.heap.size w0 W
theorem rows_lt {W : World} {b : Nat} {vs : List Value} (k : RowAt W b vs) (h : 0 < vs.length) : b < W.heap.size :=
  World.block_lt_of_cell? W _ (k.cell 0 _ (List.getElem?_eq_getElem h))
theorem RowsS.call {w0 : World} {l : List (Nat × List Value)} {W W' : World} (k : RowsS w0 l W) (hb : Below W.heap.size W W') : RowsS w0 l W' :=
  ⟨fun x hx => ⟨(k.rows x hx).1.below hb (rows_lt (k.rows x hx).1 (k.rows x hx).2), (k.rows x hx).2⟩, k.below.trans (hb.mono k.below.size)⟩
theorem RowsS.drew {w0 : World} {l : List (Nat × List Value)} {W : World} (k : RowsS w0 l W) : RowsS w0 l W.drew :=
  ⟨fun x hx => ⟨(k.rows x hx).1.drew, (k.rows x hx).2⟩, k.below.drew⟩
theorem RowsS.drewN {w0 : World} {l : List (Nat × List Value)} {W : World} (k : RowsS w0 l W) (n : Nat) : RowsS w0 l (W.drewN n) := k.call (below_drewN W n)
theorem RowsS.add {w0 : World} {l : List (Nat × List Value)} {W W2 : World} {vs : List Value} (k : RowsS w0 l W) (hb : Below W.heap.size W W2) (hr : RowAt W2 W.heap.size vs) (h : 0 < vs.length) : RowsS w0 ((W.heap.size, vs) :: l) W2 where
  rows := fun x hx => by
    rcases List.mem_cons.1 hx with rfl | hx
    · exact ⟨hr, h⟩
    · exact (k.call hb).rows x hx
  below := (k.call hb).below
theorem RowsS.at0 {w0 : World} {l : List (Nat × List Value)} {W : World} {b : Nat} {vs : List Value} (k : RowsS w0 ((b, vs) :: l) W) : RowAt W b vs := (k.rows _ (List.mem_cons_self ..)).1
theorem RowsS.tl {w0 : World} {l : List (Nat × List Value)} {W : World} {x : Nat × List Value} (k : RowsS w0 (x :: l) W) : RowsS w0 l W := ⟨fun y hy => k.rows y (List.mem_cons_of_mem _ hy), k.below⟩
/-- the walk over a region of one class, closed against being run: where many operations are passed over, the open one runs through them at each step -/
structure Wq (ops : Array Oper) (C : World → Prop) (Q : Act → Prop) (l : List Oper) (a : Act) : Prop where
  open_ : wpQuiet Try.prog ops C Q l a
section
variable {ops : Array Oper} {rest : List Oper} {op : Oper} {a : Act} {Q : Act → Prop} {C : World → Prop}
theorem wq_region {id : Nat} {Q : Exit → Act → World → Prop} {w : World} {l : List Oper} (hB : Region.lexB .any l.toArray = true) (hC : C { w with drawn := w.drawn + 1 })
    (h : Wq l.toArray C (fun a' => ∀ w', C w' → Q .normal a' w') l a) : (Code.region id l.toArray true).wp Try.prog Q a w := wp_region_class hB hC h.open_
theorem wq_nil (h : Q a) : Wq ops C Q [] a := ⟨wpQuiet_nil h⟩
theorem wq_pass (hw : Region.wanted op (yielded ops a.tmps) = false) (h : Wq ops C Q rest (a.put op.dst undef)) : Wq ops C Q (op :: rest) a := ⟨BigFrame.wpQuiet_skip hw h.open_⟩
theorem wq_take (v : Value) (hw : Region.wanted op (yielded ops a.tmps) = true) (hrun : ∀ w, C w → (execOp a.eval op).run Try.prog w = .ok (.value v) w)
    (h : Wq ops C Q rest (a.put op.dst v)) : Wq ops C Q (op :: rest) a := ⟨wpQuiet_take v hw hrun h.open_⟩
theorem wq_call (f : FuncId) (args : Array Value) (v : Value) (hw : Region.wanted op (yielded ops a.tmps) = true) (hrun : ∀ w, (execOp a.eval op).run Try.prog w = .ok (.enter f args) w)
    (hcall : ∀ w, C w → Calls Try.prog f args w fun e w' => e = .returned v ∧ C w') (h : Wq ops C Q rest (a.put op.dst v)) : Wq ops C Q (op :: rest) a := ⟨wpQuiet_call f args v hw hrun hcall h.open_⟩
theorem wq_row {t : TypeId} {n b : Nat} {vs : List Value} (ht : RowT t n) (hl : vs.length = n) (x : Operand) (ho : op.op = .load t x) (hx : a.eval x = .pointer (some ⟨b, 0, none⟩)) (hw : Region.wanted op (yielded ops a.tmps) = true)
    (hC : ∀ w, C w → RowAt w b vs) (h : Wq ops C Q rest (a.put op.dst (.agg vs.toArray))) : Wq ops C Q (op :: rest) a := ⟨wpQuiet_row ht hl x ho hx hw hC h.open_⟩
end
/-- a comparison whose two sides are known -/
theorem run_held {ρ : Operand → Value} {op : Oper} {o : BinOp} {t u : TypeId} {x y : Operand} {A B r : Value} {w : World} (ho : op.op = .binOp o t x y u) (hx : ρ x = A) (hy : ρ y = B) (hg : (eqGuard o t x y A B).run Try.prog w = .ok () w) (hb : (binOp o t A B).run Try.prog w = .ok r w) :
    (execOp ρ op).run Try.prog w = .ok (.value r) w := by
  unfold execOp
  simp only [ho, hx, hy, Sem.run_bind, hg, hb, Result.andThen_ok, Sem.run_map, Sem.run_pure]
structure ManyAt (w : World) (A : Option Addr) (z : Nat) (rs : List (List Value)) : Prop where
  cells : 0 < rs.length → ∃ b off, A = some ⟨b, off, none⟩ ∧ b < w.heap.size ∧ ∀ i r, rs[i]? = some r → w.rangeAt b (off + i * z) r
theorem ManyAt.step {w w' : World} {A : Option Addr} {z : Nat} {rs : List (List Value)} (h : ManyAt w A z rs) (hb : Below w.heap.size w w') : ManyAt w' A z rs :=
  ⟨fun h0 => by
    obtain ⟨b, off, e, hlt, hc⟩ := h.cells h0
    exact ⟨b, off, e, Nat.lt_of_lt_of_le hlt hb.size, fun i r hi j v hv => (hb.cell (p := ⟨b, off + i * z + j, none⟩) hlt).trans (hc i r hi j v hv)⟩⟩
theorem list_of {α : Type} (P : Nat → α → Prop) : ∀ (n : Nat), (∀ i, i < n → ∃ a, P i a) → ∃ l : List α, l.length = n ∧ ∀ i, i < n → ∃ a, l[i]? = some a ∧ P i a
  | 0, _ => ⟨[], rfl, fun i hi => absurd hi (Nat.not_lt_zero _)⟩
  | n + 1, h => by
    obtain ⟨l, hl, hp⟩ := list_of P n (fun i hi => h i (by omega))
    obtain ⟨a, ha⟩ := h n (by omega)
    refine ⟨l ++ [a], by simp [hl], fun i hi => ?_⟩
    rcases Nat.lt_or_ge i n with hlt | hge
    · obtain ⟨x, hx, hpx⟩ := hp i hlt
      exact ⟨x, by rw [List.getElem?_append_left (by omega)]; exact hx, hpx⟩
    · obtain rfl : i = n := by omega
      exact ⟨a, by rw [List.getElem?_append_right (by omega), hl, Nat.sub_self]; rfl, ha⟩
theorem open_many {H : Type} {enc : TypeId × Value → H} {W : World} {base : Nat} {v : Value} {d : DataW H} {p : List MemPlace} {st et : TypeId} {z : Nat} (hz : 0 < z) (hst : Try.prog.underlying st = some (.slice et)) (hcz : Try.prog.cellsOf et = z) (G : List Value → Prop)
    (hG : ∀ (m k : Nat) (cs : List Value) (x : DataW H × List MemPlace), DataW.trod enc Try.prog W k (fun _ => true) true m et cs = some x → G cs)
    (hGz : ∀ cs, G cs → cs.length = z) (hv : Value.okWide Try.prog W .any base st v) (h : DataW.Trod enc Try.prog W 0 (fun _ => true) true st v d p) : ∃ A n c rs, v = .slice A n c ∧ rs.length = n ∧ (n ≤ c ∧ c ≤ maxLen) ∧ (∀ r ∈ rs, G r) ∧ ManyAt W A z rs := by
  obtain ⟨A, n, c, rfl⟩ := okWide_slice hst hv
  obtain ⟨fuel, hf⟩ := h
  rcases Go.Deep.open_slice hst hf with ⟨hcs, _⟩ | ⟨a, len, cap, m, k, D, Pl, hcs, _, hl, hm, hmm, _, hi⟩
  · simp [Value.cells] at hcs
    obtain ⟨rfl, rfl, rfl⟩ := hcs
    exact ⟨_, _, _, [], rfl, rfl, by unfold maxLen; omega, fun r hr => absurd hr (by simp), ⟨fun hn => by simp at hn⟩⟩
  · simp [Value.cells] at hcs
    obtain ⟨rfl, rfl, rfl⟩ := hcs
    simp only [if_true] at hmm
    have each : ∀ i, i < n → ∃ q : List Value, G q ∧ ∀ j u, q[j]? = some u → W.cell? ((a.add (i * z)).add j) = some u := by
      intro i hin
      obtain ⟨cs, hc, ht⟩ := hi i (by omega)
      rw [hcz] at hc
      obtain ⟨_, hcl, hat⟩ := World.cells?_some hc
      have hg := hG _ _ _ _ ht
      refine ⟨cs, hg, fun j u hu => ?_⟩
      have hj : j < z := by have := (List.getElem?_eq_some_iff.1 hu).1; have := hGz _ hg; omega
      rw [hat j hj, hu]
    obtain ⟨rs, hrl, hrs⟩ := list_of _ n each
    have hget : ∀ i r, rs[i]? = some r → G r ∧ ∀ j u, r[j]? = some u → W.cell? ((a.add (i * z)).add j) = some u := by
      intro i r hr
      have hin : i < n := by have := (List.getElem?_eq_some_iff.1 hr).1; omega
      obtain ⟨q, hq, h1⟩ := hrs i hin
      rw [hr] at hq
      injection hq with hq
      rw [hq]; exact h1
    refine ⟨_, _, _, rs, rfl, hrl, by omega, fun r hr => ?_, ⟨fun hn => ?_⟩⟩
    · obtain ⟨i, hi', he⟩ := List.getElem_of_mem hr
      exact (hget i r (by rw [List.getElem?_eq_getElem hi', he])).1
    · obtain ⟨r0, hr0⟩ : ∃ r, rs[0]? = some r := ⟨_, List.getElem?_eq_getElem (by omega)⟩
      obtain ⟨b, off, spot⟩ := a
      obtain ⟨hz0, hc0⟩ := hget 0 r0 hr0
      have hl0 := hGz _ hz0
      have hcell0 := hc0 0 _ (List.getElem?_eq_getElem (by omega))
      have hspot : spot = none := by simpa [Addr.add] using World.cell?_spot hcell0
      subst hspot
      refine ⟨b, off, rfl, ?_, fun i r hr j u hu => ?_⟩
      · rw [Addr.add_mid, Addr.add_mid] at hcell0
        exact World.block_lt_of_cell? W _ hcell0
      · have := (hget i r hr).2 j u hu
        rw [Addr.add_mid, Addr.add_mid] at this
        exact this
theorem owns_below {w w' : World} {base : Nat} {e : TypeId} {size : Nat} {v : Value} {n : Nat} {xs : List Value} (h : w.ownsRow base e size v n xs) (hb : Below w.heap.size w w') : w'.ownsRow base e size v n xs := by
  refine ⟨h.1, ?_⟩
  rcases h.2 with h2 | ⟨g, cap, cur, h1, h2, h3, h4⟩
  · exact Or.inl h2
  · exact Or.inr ⟨g, cap, cur, h1, h2, (hb.block g (Array.getElem?_eq_some_iff.1 h3).1).trans h3, h4⟩
theorem owns_slice {w : World} {base : Nat} {e : TypeId} {size : Nat} {v : Value} {k : Nat} {xs : List Value} (h : w.ownsRow base e size v k xs) : ∃ A c, v = .slice A k c := by
  rcases h.2 with ⟨e1, e2⟩ | ⟨g, cap, cur, e1, _⟩
  · exact ⟨none, 0, by rw [e1, e2]⟩
  · exact ⟨_, _, e1⟩
theorem cell_new (w : World) (vs : List Value) (t : TypeId) : ∀ j u, vs[j]? = some u → (w.alloc (.cells vs.toArray t)).cell? ((⟨w.heap.size, 0, none⟩ : Addr).add j) = some u := fun j u hj => by
  have := (rowAt_new w vs t).range j u hj
  rw [Nat.zero_add] at this
  unfold Addr.add
  by_cases e : j = 0
  · subst e; rw [if_pos rfl]; exact this
  · rw [if_neg e, Nat.zero_add]; exact this
theorem wpList_load_at {t : TypeId} {n : Nat} (ht : RowT t n) {ops : Array Oper} {rest : List Oper} {op : Oper} {a : Act} {Q : Exit → Act → World → Prop} {w : World} {b o : Nat} {vs : List Value} (hr : w.rangeAt b o vs) (hl : vs.length = n) (hgd : op.guard = none) (x : Operand) (ho : op.op = .load t x)
    (hx : a.eval x = .pointer (some ⟨b, o, none⟩)) (h : wpList Try.prog ops Q rest (a.put op.dst (.agg vs.toArray)) w) : wpList Try.prog ops Q (op :: rest) a w := by
  obtain ⟨d, hd, hrow⟩ := ht.row
  exact wpList_load_mid hgd t x ho b o hx vs d hr hd hrow (by rw [ht.info, hl]) h
theorem okWide_array {P : Program} {w : World} {r : Reach} {base : Nat} {t : TypeId} {v : Value} {n : Nat} {e : TypeId} (ht : P.underlying t = some (.array n e)) (h : Value.okWide P w r base t v) : ∃ cs, v = .agg cs ∧ cs.size = P.cellsOf t := by
  simp only [Value.okWide, ht] at h
  obtain ⟨cs, h1, h2, _⟩ := h
  exact ⟨cs, h1, h2⟩
end Go.Proofs.Ythngbakbiocadaa

/-
  Plain mathematics of maps: entries in order, what a Put leaves, and what the last Puts into an Lru leave.
-/
namespace Go.Proofs.Ythngbakbiocadaa.Z
set_option maxRecDepth 100000

/-- an entry: a key and four words -/
structure En where
  key : Int
  a : Int
  b : Int
  c : Int
  d : Int
deriving DecidableEq

def has (k : Int) (l : List En) : Bool := l.any (fun e => e.key == k)
def drop (k : Int) (l : List En) : List En := l.filter (fun e => e.key != k)
def find (k : Int) (l : List En) : Option En := l.find? (fun e => e.key == k)
/-- the entries behind a Put, and the error -/
def putL (lru : Bool) (room : Nat) (l : List En) (e : En) : List En :=
  if has e.key l then (if lru then drop e.key l ++ [e] else l.map (fun x => if x.key == e.key then e else x))
  else if l.length = room then (if lru then l.tail ++ [e] else l)
  else l ++ [e]
def putE (lru : Bool) (room : Nat) (l : List En) (e : En) : Int := if !has e.key l && decide (l.length = room) && !lru then 28 else 0
def useL (lru : Bool) (l : List En) (k : Int) : List En := match find k l with
  | some e => if lru then drop k l ++ [e] else l
  | none => l

theorem has_iff (k : Int) (l : List En) : has k l = true ↔ ∃ e ∈ l, e.key = k := by
  unfold has; simp [List.any_eq_true]
theorem has_not (k : Int) (l : List En) : has k l = false ↔ ∀ e ∈ l, e.key ≠ k := by
  rw [← Bool.not_eq_true, has_iff]; simp
theorem drop_no {k : Int} {l : List En} (h : has k l = false) : drop k l = l := by
  unfold drop
  rw [List.filter_eq_self]
  intro e he
  have := (has_not k l).1 h e he
  simpa using this
theorem has_rev (k : Int) (l : List En) : has k l.reverse = has k l := by unfold has; rw [List.any_reverse]
theorem drop_rev (k : Int) (l : List En) : drop k l.reverse = (drop k l).reverse := by unfold drop; rw [List.filter_reverse]

/-! ### no key twice -/
def keys (l : List En) : List Int := l.map En.key
def Uniq (l : List En) : Prop := (keys l).Nodup
theorem uniq_nil : Uniq [] := List.nodup_nil
theorem uniq_cons {e : En} {l : List En} : Uniq (e :: l) ↔ has e.key l = false ∧ Uniq l := by
  unfold Uniq keys
  rw [List.map_cons, List.nodup_cons, has_not]
  constructor
  · rintro ⟨h1, h2⟩
    exact ⟨fun x hx he => h1 (List.mem_map.2 ⟨x, hx, he⟩), h2⟩
  · rintro ⟨h1, h2⟩
    refine ⟨fun hm => ?_, h2⟩
    obtain ⟨x, hx, he⟩ := List.mem_map.1 hm
    exact h1 x hx he
theorem uniq_drop {l : List En} (h : Uniq l) (k : Int) : Uniq (drop k l) := by
  unfold Uniq keys drop at *
  exact h.sublist (List.filter_sublist.map _)
theorem has_drop (k j : Int) (l : List En) : has j (drop k l) = (has j l && j != k) := by
  rw [Bool.eq_iff_iff, has_iff, Bool.and_eq_true, has_iff]
  unfold drop
  constructor
  · rintro ⟨e, he, rfl⟩
    rw [List.mem_filter] at he
    exact ⟨⟨e, he.1, rfl⟩, by simpa using he.2⟩
  · rintro ⟨⟨e, he, rfl⟩, hk⟩
    exact ⟨e, List.mem_filter.2 ⟨he, by simpa using hk⟩, rfl⟩
theorem uniq_rev {l : List En} (h : Uniq l) : Uniq l.reverse := by
  unfold Uniq keys at *
  rw [List.map_reverse]
  unfold List.Nodup at *
  rw [List.pairwise_reverse]
  exact h.imp (fun h e => h e.symm)
theorem uniq_take {l : List En} (h : Uniq l) (n : Nat) : Uniq (l.take n) := by
  unfold Uniq keys at *
  rw [List.map_take]
  exact h.sublist (List.take_sublist _ _)

/-! ### the last of each key, the newest first -/
def dd : List En → List En
  | [] => []
  | x :: r => x :: drop x.key (dd r)
theorem uniq_dd : ∀ l : List En, Uniq (dd l)
  | [] => uniq_nil
  | x :: r => by
    rw [dd, uniq_cons]
    exact ⟨by rw [has_drop]; simp, uniq_drop (uniq_dd r) _⟩
theorem take_drop_key (k : Int) : ∀ (l : List En) (m : Nat), Uniq l → (drop k l).take m = if has k (l.take (m + 1)) then drop k (l.take (m + 1)) else l.take m
  | [], m, _ => by simp [drop, has]
  | x :: r, 0, _ => by
    rw [List.take_zero, List.take_succ_cons, List.take_zero]
    by_cases h : x.key = k
    · simp [has, drop, h]
    · simp [has, h]
  | x :: r, m + 1, hu => by
    obtain ⟨hx, hr⟩ := uniq_cons.1 hu
    by_cases h : x.key = k
    · subst h
      have h1 : has x.key ((x :: r).take (m + 1 + 1)) = true := by unfold has; simp
      rw [if_pos h1, List.take_succ_cons]
      have e1 : drop x.key (x :: r) = drop x.key r := by unfold drop; simp
      have e2 : drop x.key (x :: r.take (m + 1)) = drop x.key (r.take (m + 1)) := by unfold drop; simp
      rw [e1, e2, drop_no hx, drop_no]
      rw [has_not] at hx ⊢
      exact fun e he => hx e (List.mem_of_mem_take he)
    · have e1 : drop k (x :: r) = x :: drop k r := by unfold drop; simp [h]
      have e2 : has k ((x :: r).take (m + 1 + 1)) = has k (r.take (m + 1)) := by unfold has; simp [h]
      have e3 : drop k ((x :: r).take (m + 1 + 1)) = x :: drop k (r.take (m + 1)) := by rw [List.take_succ_cons]; unfold drop; simp [h]
      rw [e1, e2, e3, List.take_succ_cons, List.take_succ_cons, take_drop_key k r m hr]
      split <;> rfl
/-- what an Lru holds behind Puts -/
def puts (n : Nat) (es : List En) : List En := es.foldl (fun l e => putL true n l e) []
theorem puts_snoc (n : Nat) (es : List En) (e : En) : puts n (es ++ [e]) = putL true n (puts n es) e := by unfold puts; rw [List.foldl_append]; rfl
theorem puts_is (n : Nat) (hn : 1 ≤ n) (es : List En) : (puts n es).reverse = (dd es.reverse).take n := by
  suffices h : ∀ (m : Nat) (es : List En), es.length = m → (puts n es).reverse = (dd es.reverse).take n from h _ es rfl
  intro m
  induction m with
  | zero => intro es h; rw [List.length_eq_zero_iff.1 h]; simp [puts, dd]
  | succ m ih =>
    intro es h
    obtain ⟨e, t, rfl⟩ : ∃ e t, es = t ++ [e] := ⟨es.getLast (by intro e; rw [e] at h; simp at h), es.dropLast, (List.dropLast_concat_getLast _).symm⟩
    have hi := ih t (by simpa using h)
    obtain ⟨k, rfl⟩ : ∃ k, n = k + 1 := ⟨n - 1, by omega⟩
    rw [puts_snoc, List.reverse_append, List.reverse_singleton, List.singleton_append, dd, List.take_succ_cons, take_drop_key _ _ _ (uniq_dd _), ← hi, has_rev]
    unfold putL
    cases hh : has e.key (puts (k + 1) t) with
    | true =>
      simp only [if_true]
      rw [List.reverse_append, List.reverse_singleton, List.singleton_append, drop_rev]
    | false =>
      simp only [Bool.false_eq_true, if_false, if_true]
      have hl : (puts (k + 1) t).length = ((dd t.reverse).take (k + 1)).length := by rw [← hi, List.length_reverse]
      rw [List.length_take] at hl
      split
      · rename_i hf
        rw [List.reverse_append, List.reverse_singleton, List.singleton_append]
        congr 1
        have : (puts (k + 1) t).tail.reverse = (puts (k + 1) t).reverse.dropLast := by
          rw [List.dropLast_reverse]
        rw [this, hi, List.dropLast_eq_take, List.length_take, List.take_take]
        congr 1
        omega
      · rename_i hf
        rw [List.reverse_append, List.reverse_singleton, List.singleton_append, hi]
        congr 1
        rw [List.take_of_length_le (by omega), List.take_of_length_le (by omega)]
/-! ### going through them from the newest on -/
theorem dd_app : ∀ (a b : List En), dd (a ++ b) = dd a ++ (dd b).filter (fun e => !has e.key a)
  | [], b => by
    have : (dd b).filter (fun e => !has e.key []) = dd b := List.filter_eq_self.2 (fun _ _ => rfl)
    rw [this]
    rfl
  | x :: r, b => by
    rw [List.cons_append, dd, dd_app r b, dd, List.cons_append]
    congr 1
    unfold drop
    rw [List.filter_append, List.filter_filter]
    congr 1
    apply List.filter_congr
    intro e _
    unfold has
    rw [List.any_cons]
    by_cases h : e.key = x.key
    · simp [h]
    · have h1 : (e.key != x.key) = true := by simpa using h
      have h2 : (x.key == e.key) = false := by simpa using fun q => h (Eq.symm q)
      rw [h1, h2]
      simp
theorem has_dd (k : Int) (l : List En) : has k (dd l) = has k l := by
  induction l with
  | nil => rfl
  | cons x r ih =>
    rw [dd]
    have e1 : has k (x :: drop x.key (dd r)) = (x.key == k || has k (drop x.key (dd r))) := by unfold has; rw [List.any_cons]
    have e2 : has k (x :: r) = (x.key == k || has k r) := by unfold has; rw [List.any_cons]
    rw [e1, e2, has_drop, ih]
    by_cases h : x.key = k
    · simp [h]
    · have h2 : (k != x.key) = true := by simpa using fun q => h (Eq.symm q)
      rw [h2, Bool.and_true]
/-- a key that hasn't been seen is the next -/
theorem next_new (R : List En) (j : Nat) (x : En) (hx : R[j]? = some x) (hs : has x.key (R.take j) = false) : (dd R)[(dd (R.take j)).length]? = some x ∧ dd (R.take (j + 1)) = dd (R.take j) ++ [x] := by
  obtain ⟨hj, he⟩ := List.getElem?_eq_some_iff.1 hx
  have hR : R = R.take j ++ (x :: R.drop (j + 1)) := by rw [← he, ← List.drop_eq_getElem_cons hj, List.take_append_drop]
  constructor
  · have h1 : dd R = dd (R.take j ++ (x :: R.drop (j + 1))) := by rw [← hR]
    rw [h1, dd_app, List.getElem?_append_right (Nat.le_refl _), Nat.sub_self, dd]
    rw [List.filter_cons_of_pos (by simp [hs])]
    rfl
  · rw [List.take_succ_eq_append_getElem hj, dd_app, he]
    congr 1
    simp [dd, drop, hs]
theorem next_old (R : List En) (j : Nat) (x : En) (hx : R[j]? = some x) (hs : has x.key (R.take j) = true) : dd (R.take (j + 1)) = dd (R.take j) := by
  obtain ⟨hj, he⟩ := List.getElem?_eq_some_iff.1 hx
  rw [List.take_succ_eq_append_getElem hj, dd_app, he]
  simp [dd, drop, hs]
theorem find_at : ∀ (l : List En) (i : Nat) (x : En), Uniq l → l[i]? = some x → find x.key l = some x
  | [], i, x, _, h => by simp at h
  | y :: r, 0, x, _, h => by
    simp at h
    subst h
    simp [find]
  | y :: r, i + 1, x, hu, h => by
    obtain ⟨h1, h2⟩ := uniq_cons.1 hu
    have hr := find_at r i x h2 (by simpa using h)
    have hm : x ∈ r := List.mem_of_getElem? (by simpa using h)
    have : y.key ≠ x.key := fun e => ((has_not _ _).1 h1 x hm) e.symm
    unfold find at hr ⊢
    rw [List.find?_cons_of_neg (by simpa using this)]
    exact hr
theorem find_none {k : Int} {l : List En} (h : has k l = false) : find k l = none := by
  unfold find
  rw [List.find?_eq_none]
  intro e he
  have := (has_not k l).1 h e he
  simpa using this
theorem find_rev (k : Int) (l : List En) (hu : Uniq l) : find k l.reverse = find k l := by
  cases h : has k l with
  | false => rw [find_none h, find_none (by rw [has_rev]; exact h)]
  | true =>
    obtain ⟨e, he, rfl⟩ := (has_iff _ _).1 h
    obtain ⟨i, hi, hg⟩ := List.getElem_of_mem he
    obtain ⟨j, hj, hg2⟩ := List.getElem_of_mem (List.mem_reverse.2 he)
    rw [find_at l i e hu (by rw [List.getElem?_eq_getElem hi, hg]), find_at l.reverse j e (uniq_rev hu) (by rw [List.getElem?_eq_getElem hj, hg2])]
/-- a key that comes anew, from the newest on: it is there just if there is room -/
theorem last_new (n : Nat) (hn : 1 ≤ n) (es : List En) (j : Nat) (x : En) (hx : es.reverse[j]? = some x) (hs : has x.key (es.reverse.take j) = false) :
    find x.key (puts n es) = if (dd (es.reverse.take j)).length < n then some x else none := by
  have hp := puts_is n hn es
  have hu : Uniq (puts n es).reverse := by rw [hp]; exact uniq_take (uniq_dd _) _
  have hf : find x.key (puts n es) = find x.key ((dd es.reverse).take n) := by
    rw [← hp, find_rev _ _ (by have := uniq_rev hu; rwa [List.reverse_reverse] at this)]
  obtain ⟨h1, _⟩ := next_new _ _ _ hx hs
  rw [hf]
  split
  · rename_i hlt
    exact find_at _ _ _ (uniq_take (uniq_dd _) _) (by rw [List.getElem?_take_of_lt hlt]; exact h1)
  · rename_i hge
    refine find_none ((has_not _ _).2 fun e he hk => ?_)
    obtain ⟨i, hi, hg⟩ := List.getElem_of_mem he
    rw [List.length_take] at hi
    rw [List.getElem_take] at hg
    have hdu := uniq_dd es.reverse
    unfold Uniq at hdu
    have hq : (keys (dd es.reverse))[i]? = (keys (dd es.reverse))[(dd (es.reverse.take j)).length]? := by
      unfold keys
      rw [List.getElem?_map, List.getElem?_map, h1, List.getElem?_eq_getElem (by omega), hg]
      simp [hk]
    have hl2 : (dd (es.reverse.take j)).length < (keys (dd es.reverse)).length := by
      unfold keys; rw [List.length_map]; exact (List.getElem?_eq_some_iff.1 h1).1
    have hl1 : i < (keys (dd es.reverse)).length := by unfold keys; rw [List.length_map]; omega
    rw [List.getElem?_eq_getElem hl1, List.getElem?_eq_getElem hl2] at hq
    exact (List.pairwise_iff_getElem.1 hdu i _ hl1 hl2 (by omega)) (Option.some.inj hq)
theorem last_len (n : Nat) (hn : 1 ≤ n) (es : List En) : (puts n es).length = min n (dd es.reverse).length := by
  rw [← List.length_reverse, puts_is n hn, List.length_take]
end Go.Proofs.Ythngbakbiocadaa.Z

/-
  Entries by their places: where a key stands, what a Put, a Use leaves.
-/
namespace Go.Proofs.Ythngbakbiocadaa.Z
set_option maxRecDepth 100000

def pos (k : Int) (l : List En) : Option Nat := l.findIdx? (fun e => e.key == k)
def posI (k : Int) (l : List En) : Int := match pos k l with
  | some i => (i : Int)
  | none => -1
theorem pos_some {k : Int} {l : List En} {i : Nat} (h : pos k l = some i) : ∃ x, l[i]? = some x ∧ x.key = k ∧ ∀ j y, j < i → l[j]? = some y → y.key ≠ k := by
  unfold pos at h
  obtain ⟨hi, h1, h2⟩ := List.findIdx?_eq_some_iff_getElem.1 h
  refine ⟨l[i], List.getElem?_eq_getElem hi, by simpa using h1, fun j y hj hy => ?_⟩
  have h3 := h2 j hj
  obtain ⟨hjl, e⟩ := List.getElem?_eq_some_iff.1 hy
  rw [← e]
  simpa using h3
theorem pos_lt {k : Int} {l : List En} {i : Nat} (h : pos k l = some i) : i < l.length := by
  obtain ⟨x, hx, _⟩ := pos_some h
  exact (List.getElem?_eq_some_iff.1 hx).1
theorem pos_none {k : Int} {l : List En} (h : pos k l = none) : ∀ e ∈ l, e.key ≠ k := by
  unfold pos at h
  rw [List.findIdx?_eq_none_iff] at h
  intro e he
  have := h e he
  simpa using this
theorem pos_of {k : Int} {l : List En} {i : Nat} {x : En} (hx : l[i]? = some x) (hk : x.key = k) (hb : ∀ j y, j < i → l[j]? = some y → y.key ≠ k) : pos k l = some i := by
  unfold pos
  rw [List.findIdx?_eq_some_iff_getElem]
  obtain ⟨hi, e⟩ := List.getElem?_eq_some_iff.1 hx
  refine ⟨hi, by rw [e]; simpa using hk, fun j hj => ?_⟩
  have := hb j l[j] hj (List.getElem?_eq_getElem (by omega))
  simpa using this
theorem pos_nil {k : Int} {l : List En} (h : ∀ e ∈ l, e.key ≠ k) : pos k l = none := by
  unfold pos
  rw [List.findIdx?_eq_none_iff]
  intro e he
  simpa using h e he
/-- the entries behind a Put, by places -/
def putI (lru : Bool) (room : Nat) (l : List En) (e : En) : List En := match pos e.key l with
  | some i => if lru then l.eraseIdx i ++ [e] else l.set i e
  | none => if l.length = room then (if lru then l.eraseIdx 0 ++ [e] else l) else l ++ [e]
def putC (lru : Bool) (room : Nat) (l : List En) (e : En) : Int := match pos e.key l with
  | some _ => 0
  | none => if l.length = room then (if lru then 0 else 28) else 0
def useI (lru : Bool) (l : List En) (k : Int) : List En := match pos k l with
  | some i => if lru then l.eraseIdx i ++ (l[i]?).toList else l
  | none => l
theorem putI_len {lru : Bool} {room : Nat} {l : List En} {e : En} (h : l.length ≤ room) (hr : 1 ≤ room) : (putI lru room l e).length ≤ room := by
  unfold putI
  split
  · rename_i i hi
    have := pos_lt hi
    split
    · rw [List.length_append, List.length_eraseIdx, if_pos this, List.length_singleton]; omega
    · rw [List.length_set]; exact h
  · split
    · split
      · rename_i hf _
        rw [List.length_append, List.length_eraseIdx, if_pos (by omega), List.length_singleton]; omega
      · exact h
    · rw [List.length_append, List.length_singleton]; omega
theorem set_erase (l : List En) (i : Nat) (e : En) : (l.set i e).eraseIdx i = l.eraseIdx i := by
  induction l generalizing i with
  | nil => rfl
  | cons x r ih =>
    cases i with
    | zero => rfl
    | succ i => simp [ih]
theorem set_same {l : List En} {i : Nat} {x : En} (h : l[i]? = some x) : l.set i x = l := by
  obtain ⟨hi, e⟩ := List.getElem?_eq_some_iff.1 h
  subst e
  exact List.set_getElem_self hi
theorem uniq_pos {l : List En} (hu : Uniq l) {k : Int} {i : Nat} (h : pos k l = some i) : drop k l = l.eraseIdx i := by
  induction l generalizing i with
  | nil => simp [pos] at h
  | cons x r ih =>
    obtain ⟨h1, h2⟩ := uniq_cons.1 hu
    by_cases hk : x.key = k
    · have : pos k (x :: r) = some 0 := pos_of (x := x) rfl hk (fun j y hj => by omega)
      rw [this] at h
      injection h with h
      subst h
      rw [List.eraseIdx_zero, List.tail_cons]
      have e1 : drop k (x :: r) = drop k r := by unfold drop; simp [hk]
      rw [e1, drop_no (by rw [← hk]; exact h1)]
    · have e1 : drop k (x :: r) = x :: drop k r := by unfold drop; simp [hk]
      obtain ⟨y, hy, hyk, hb⟩ := pos_some h
      cases i with
      | zero =>
        simp at hy
        exact absurd (hy ▸ hyk) hk
      | succ i =>
        have hp : pos k r = some i := pos_of (by simpa using hy) hyk (fun j z hj hz => hb (j + 1) z (by omega) (by simpa using hz))
        rw [e1, ih h2 hp, List.eraseIdx_cons_succ]
theorem pos_has {k : Int} {l : List En} : has k l = (pos k l).isSome := by
  cases h : pos k l with
  | none => exact (has_not _ _).2 (pos_none h)
  | some i =>
    obtain ⟨x, hx, hk, _⟩ := pos_some h
    exact (has_iff _ _).2 ⟨x, List.mem_of_getElem? hx, hk⟩
theorem putI_putL {room : Nat} {l : List En} {e : En} (hu : Uniq l) : putI true room l e = putL true room l e := by
  unfold putI putL
  cases h : pos e.key l with
  | none =>
    have : has e.key l = false := by rw [pos_has, h]; rfl
    rw [this]
    simp
  | some i =>
    have : has e.key l = true := by rw [pos_has, h]; rfl
    rw [this, uniq_pos hu h]
    simp
theorem putC_lru {room : Nat} {l : List En} {e : En} : putC true room l e = 0 := by
  unfold putC
  split
  · rfl
  · split <;> rfl
theorem find_pos {k : Int} {l : List En} : find k l = (pos k l).bind (fun i => l[i]?) := by
  cases h : pos k l with
  | none => rw [find_none ((has_not _ _).2 (pos_none h))]; rfl
  | some i =>
    obtain ⟨x, hx, hk, hb⟩ := pos_some h
    show find k l = l[i]?
    rw [hx]
    unfold find
    rw [List.find?_eq_some_iff_getElem]
    obtain ⟨hi, e⟩ := List.getElem?_eq_some_iff.1 hx
    refine ⟨by simpa using hk, i, hi, e, fun j hj => ?_⟩
    have := hb j l[j] hj (List.getElem?_eq_getElem (by omega))
    simpa using this
theorem uniq_puts (n : Nat) (hn : 1 ≤ n) (es : List En) : Uniq (puts n es) := by
  have h := puts_is n hn es
  have h2 : Uniq (puts n es).reverse := by rw [h]; exact uniq_take (uniq_dd _) _
  have := uniq_rev h2
  rwa [List.reverse_reverse] at this
theorem puts_len (n : Nat) (hn : 1 ≤ n) (es : List En) : (puts n es).length ≤ n := by
  have h := puts_is n hn es
  have : (puts n es).reverse.length ≤ n := by rw [h, List.length_take]; omega
  rwa [List.length_reverse] at this
end Go.Proofs.Ythngbakbiocadaa.Z
