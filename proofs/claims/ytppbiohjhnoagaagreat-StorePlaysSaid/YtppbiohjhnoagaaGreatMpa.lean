/-
  Plain mathematics of pages: bytes at a place, numbers of bytes, the highest first. Nothing of the program is in it.
-/
import Derived.Test.YtppbiohjhnoagaaGreatMda
import Derived.WalkKit
import Derived.WalkSpells
import Derived.WalkLawsBesides
import Derived.Laws.BitsAllLaws
import Derived.Lib.Hide
namespace Go.Proofs.YtppbiohjhnoagaaGreat.Pg

/-- do so many bytes from one on stand in a page? -/
def insB (a n : Int) : Bool := decide (0 ≤ a ∧ 0 ≤ n ∧ a ≤ 64 - n)
/-- is it a number's place? -/
def numB (a n : Int) : Bool := decide (1 ≤ n ∧ n ≤ 4 ∧ 0 ≤ a ∧ a ≤ 64 - n)
theorem ins_yes {a n : Int} (h : insB a n = true) : 0 ≤ a ∧ 0 ≤ n ∧ a ≤ 64 - n := of_decide_eq_true h
theorem ins_no {a n : Int} (h : insB a n = false) : a < 0 ∨ n < 0 ∨ 64 - n < a := by have := of_decide_eq_false h; omega
theorem num_yes {a n : Int} (h : numB a n = true) : 1 ≤ n ∧ n ≤ 4 ∧ 0 ≤ a ∧ a ≤ 64 - n := of_decide_eq_true h
theorem num_no {a n : Int} (h : numB a n = false) : n < 1 ∨ 4 < n ∨ a < 0 ∨ 64 - n < a := by have := of_decide_eq_false h; omega
theorem ins_mk {a n : Int} (h1 : 0 ≤ a) (h2 : 0 ≤ n) (h3 : a ≤ 64 - n) : insB a n = true := decide_eq_true ⟨h1, h2, h3⟩
theorem num_mk {a n : Int} (h1 : 1 ≤ n) (h2 : n ≤ 4) (h3 : 0 ≤ a) (h4 : a ≤ 64 - n) : numB a n = true := decide_eq_true ⟨h1, h2, h3, h4⟩

/-- the number of bytes, the highest first -/
def numOf (l : List UInt8) : Int := l.foldl (fun n c => n * 256 + (c.toNat : Int)) 0
theorem numOf_snoc (l : List UInt8) (c : UInt8) : numOf (l ++ [c]) = numOf l * 256 + (c.toNat : Int) := by
  unfold numOf; rw [List.foldl_append]; rfl
theorem numOf_nil : numOf [] = 0 := rfl
theorem fold_from (l : List UInt8) (x : Int) : l.foldl (fun n c => n * 256 + (c.toNat : Int)) x = x * 256 ^ l.length + numOf l := by
  unfold numOf
  induction l generalizing x with
  | nil => simp
  | cons c l ih =>
    rw [List.foldl_cons, List.foldl_cons, ih (x * 256 + (c.toNat : Int)), ih (0 * 256 + (c.toNat : Int)), List.length_cons, Int.pow_succ, Int.add_mul, Int.add_mul]
    have e : x * 256 * 256 ^ l.length = x * (256 ^ l.length * 256) := by rw [Int.mul_assoc, Int.mul_comm 256 (256 ^ l.length)]
    omega
theorem numOf_cons (c : UInt8) (l : List UInt8) : numOf (c :: l) = (c.toNat : Int) * 256 ^ l.length + numOf l := by
  unfold numOf; rw [List.foldl_cons, fold_from, Int.zero_mul, Int.zero_add]; rfl
theorem numOf_bd (l : List UInt8) : 0 ≤ numOf l ∧ numOf l < 256 ^ l.length := by
  induction l with
  | nil => simp [numOf_nil]
  | cons c l ih =>
    obtain ⟨h0, h1⟩ := ih
    have hc := c.toNat_lt
    rw [numOf_cons, List.length_cons, Int.pow_succ]
    generalize (256 : Int) ^ l.length = m at h1 ⊢
    have hm : 0 ≤ m := by omega
    have k1 : (c.toNat : Int) * m ≤ 255 * m := Int.mul_le_mul_of_nonneg_right (by omega) hm
    have k0 : 0 ≤ (c.toNat : Int) * m := Int.mul_nonneg (by omega) hm
    omega
theorem numOf_small (l : List UInt8) (h : l.length ≤ 3) : 0 ≤ numOf l ∧ numOf l < 16777216 := by
  obtain ⟨h0, h1⟩ := numOf_bd l
  refine ⟨h0, ?_⟩
  have : l.length = 0 ∨ l.length = 1 ∨ l.length = 2 ∨ l.length = 3 := by omega
  rcases this with e | e | e | e <;> (rw [e] at h1; omega)
theorem numOf_four (l : List UInt8) (h : l.length ≤ 4) : 0 ≤ numOf l ∧ numOf l < 4294967296 := by
  obtain ⟨h0, h1⟩ := numOf_bd l
  refine ⟨h0, ?_⟩
  have : l.length = 0 ∨ l.length = 1 ∨ l.length = 2 ∨ l.length = 3 ∨ l.length = 4 := by omega
  rcases this with e | e | e | e | e <;> (rw [e] at h1; omega)

/-- byte number k of a number, from the lowest on -/
def byteAt (k : Nat) (n : Int) : UInt8 := UInt8.ofNat (n / 256 ^ k % 256).toNat
theorem byteAt_nat (k : Nat) (n : Int) : ((byteAt k n).toNat : Int) = n / 256 ^ k % 256 := by
  unfold byteAt
  have h0 := Int.emod_nonneg (n / 256 ^ k) (show (256 : Int) ≠ 0 by omega)
  have h1 := Int.emod_lt_of_pos (n / 256 ^ k) (show (0 : Int) < 256 by omega)
  rw [UInt8.toNat_ofNat']
  omega
/-- the lowest k bytes of a number, the highest first -/
def bytesN : Nat → Int → List UInt8
  | 0, _ => []
  | k + 1, n => byteAt k n :: bytesN k n
theorem bytesN_length (k : Nat) (n : Int) : (bytesN k n).length = k := by
  induction k with
  | zero => rfl
  | succ k ih => rw [bytesN, List.length_cons, ih]
theorem emod_step (n m : Int) (hm : 0 < m) : n % (m * 256) = n % m + m * (n / m % 256) := by
  have h1 := Int.mul_ediv_add_emod n m
  have h2 := Int.mul_ediv_add_emod (n / m) 256
  have r0 := Int.emod_nonneg n (show m ≠ 0 by omega)
  have r1 := Int.emod_lt_of_pos n hm
  have q0 := Int.emod_nonneg (n / m) (show (256 : Int) ≠ 0 by omega)
  have q1 := Int.emod_lt_of_pos (n / m) (show (0 : Int) < 256 by omega)
  have e : n = (n % m + m * (n / m % 256)) + (m * 256) * (n / m / 256) := by
    conv => lhs; rw [← h1, ← h2]
    rw [Int.mul_add, Int.mul_assoc]
    omega
  have b1 : m * (n / m % 256) ≤ m * 255 := Int.mul_le_mul_of_nonneg_left (by omega) (by omega)
  have b0 : 0 ≤ m * (n / m % 256) := Int.mul_nonneg (by omega) q0
  conv => lhs; rw [e]
  rw [Int.add_mul_emod_self_left, Int.emod_eq_of_lt (by omega) (by omega)]
theorem numOf_bytesN (k : Nat) (n : Int) : numOf (bytesN k n) = n % 256 ^ k := by
  induction k with
  | zero => simp [bytesN, numOf_nil, Int.emod_one]
  | succ k ih =>
    rw [bytesN, numOf_cons, ih, byteAt_nat, bytesN_length, Int.pow_succ]
    rw [emod_step n (256 ^ k) (Int.pow_pos (by omega))]
    have : n / 256 ^ k % 256 * 256 ^ k = 256 ^ k * (n / 256 ^ k % 256) := Int.mul_comm _ _
    omega

/-- other bytes from a place on -/
def over (p : List UInt8) (a : Nat) (s : List UInt8) : List UInt8 := p.take a ++ (s ++ p.drop (a + s.length))
theorem over_nil (p : List UInt8) (a : Nat) : over p a [] = p := by unfold over; simp
theorem over_length (p : List UInt8) (a : Nat) (s : List UInt8) (h : a + s.length ≤ p.length) : (over p a s).length = p.length := by
  unfold over; simp; omega
theorem over_at (p : List UInt8) (a : Nat) (s : List UInt8) (j : Nat) (h : a + s.length ≤ p.length) :
    (over p a s)[j]? = if j < a then p[j]? else if j < a + s.length then s[j - a]? else p[j]? := by
  unfold over
  have hl : (p.take a).length = a := by simp; omega
  by_cases h1 : j < a
  · rw [if_pos h1, List.getElem?_append_left (by omega), List.getElem?_take, if_pos h1]
  · rw [if_neg h1, List.getElem?_append_right (by omega), hl]
    by_cases h2 : j < a + s.length
    · rw [if_pos h2, List.getElem?_append_left (by omega)]
    · rw [if_neg h2, List.getElem?_append_right (by omega), List.getElem?_drop]
      congr 1; omega
theorem over_set_before (p : List UInt8) (a : Nat) (s : List UInt8) (c : UInt8) (h : a + 1 + s.length ≤ p.length) : (over p (a + 1) s).set a c = over p a (c :: s) := by
  apply List.ext_getElem?
  intro j
  rw [List.getElem?_set, over_length _ _ _ h, over_at _ _ _ _ h, over_at _ _ _ _ (by rw [List.length_cons]; omega), List.length_cons]
  by_cases h1 : a = j
  · subst h1
    rw [if_pos rfl, if_pos (by omega), if_neg (by omega), if_pos (by omega), Nat.sub_self]; rfl
  · rw [if_neg h1]
    by_cases h2 : j < a
    · rw [if_pos (by omega), if_pos h2]
    · rw [if_neg (by omega), if_neg h2]
      by_cases h3 : j < a + 1 + s.length
      · rw [if_pos h3, if_pos (by omega)]
        obtain ⟨i, rfl⟩ : ∃ i, j = a + 1 + i := ⟨j - (a + 1), by omega⟩
        rw [show a + 1 + i - (a + 1) = i by omega, show a + 1 + i - a = i + 1 by omega, List.getElem?_cons_succ]
      · rw [if_neg h3, if_neg (by omega)]
theorem over_set_behind (p : List UInt8) (a : Nat) (s : List UInt8) (c : UInt8) (h : a + s.length + 1 ≤ p.length) : (over p a s).set (a + s.length) c = over p a (s ++ [c]) := by
  apply List.ext_getElem?
  intro j
  rw [List.getElem?_set, over_length _ _ _ (by omega), over_at _ _ _ _ (by omega), over_at _ _ _ _ (by rw [List.length_append, List.length_cons, List.length_nil]; omega), List.length_append, List.length_cons, List.length_nil]
  by_cases h1 : a + s.length = j
  · subst h1
    rw [if_pos rfl, if_pos (by omega), if_neg (by omega), if_pos (by omega), show a + s.length - a = s.length by omega, List.getElem?_append_right (by omega), Nat.sub_self]; rfl
  · rw [if_neg h1]
    by_cases h2 : j < a
    · rw [if_pos h2, if_pos h2]
    · rw [if_neg h2, if_neg h2]
      by_cases h3 : j < a + s.length
      · rw [if_pos h3, if_pos (by omega), List.getElem?_append_left (by omega)]
      · rw [if_neg h3, if_neg (by omega)]
/-- what was laid over is read there -/
theorem over_back (p : List UInt8) (a : Nat) (s : List UInt8) (h : a + s.length ≤ p.length) : ((over p a s).drop a).take s.length = s := by
  unfold over
  rw [List.drop_append_of_le_length (by simp; omega), List.drop_take_self, List.nil_append, List.take_left']
  rfl

def getN (p : List UInt8) (a n : Int) : Int := if numB a n = true then numOf ((p.drop a.toNat).take n.toNat) else 0
def setN (p : List UInt8) (a n v : Int) : List UInt8 := if numB a n = true then over p a.toNat (bytesN n.toNat v) else p
def textN (p : List UInt8) (a n : Int) : List UInt8 := if insB a n = true then (p.drop a.toNat).take n.toNat else []
def setTextN (p : List UInt8) (a : Int) (s : List UInt8) : List UInt8 := if insB a s.length = true then over p a.toNat s else p
theorem setN_length (p : List UInt8) (a n v : Int) (h : p.length = 64) : (setN p a n v).length = 64 := by
  unfold setN
  split
  · have := num_yes (by assumption)
    rw [over_length _ _ _ (by rw [bytesN_length]; omega), h]
  · exact h
theorem setTextN_length (p : List UInt8) (a : Int) (s : List UInt8) (h : p.length = 64) : (setTextN p a s).length = 64 := by
  unfold setTextN
  split
  · have := ins_yes (by assumption)
    rw [over_length _ _ _ (by omega), h]
  · exact h
end Go.Proofs.YtppbiohjhnoagaaGreat.Pg

/-
  The contracts of page.inside and page.holdsNumber.
-/
namespace Go.Proofs.YtppbiohjhnoagaaGreat
open Go.RowKit


set_option maxRecDepth 100000 in
set_option maxHeartbeats 400000 in
theorem inside_any (a n : Int) (w : World) (h1 : -9223372036854775808 ≤ n) (h2 : n ≤ 9223372036854775807) :
    Calls Tryz.prog 114 #[.int .i64 a, .int .i64 n] w fun e w' => e = .returned (.bool (Pg.insB a n)) ∧ w = w' := by
  go_enter Tryz.func114, Tryz.ntmps114
  by_cases c1 : 0 ≤ a
  · by_cases c2 : 0 ≤ n
    · go_wp2
      go_ret
      exact ⟨ret_bool (by unfold Pg.insB; rw [decide_eq_decide]; omega), rfl⟩
    · go_wp2
      go_ret
      exact ⟨ret_bool (by unfold Pg.insB; symm; rw [decide_eq_false_iff_not]; omega), rfl⟩
  · go_wp2
    go_ret
    exact ⟨ret_bool (by unfold Pg.insB; symm; rw [decide_eq_false_iff_not]; omega), rfl⟩
set_option maxRecDepth 100000 in
theorem inside_yes (a n : Int) (w : World) (h1 : -9223372036854775808 ≤ n) (h2 : n ≤ 9223372036854775807) (h : Pg.insB a n = true) :
    Calls Tryz.prog 114 #[.int .i64 a, .int .i64 n] w fun e w' => e = .returned (.bool true) ∧ w = w' := h ▸ inside_any a n w h1 h2
set_option maxRecDepth 100000 in
theorem inside_no (a n : Int) (w : World) (h1 : -9223372036854775808 ≤ n) (h2 : n ≤ 9223372036854775807) (h : Pg.insB a n = false) :
    Calls Tryz.prog 114 #[.int .i64 a, .int .i64 n] w fun e w' => e = .returned (.bool false) ∧ w = w' := h ▸ inside_any a n w h1 h2

set_option maxRecDepth 100000 in
set_option maxHeartbeats 400000 in
theorem holds_yes (a n : Int) (w : World) (h : Pg.numB a n = true) :
    Calls Tryz.prog 101 #[.int .i64 a, .int .i64 n] w fun e w' => e = .returned (.bool true) ∧ w = w' := by
  obtain ⟨c1, c2, c3, c4⟩ := Pg.num_yes h
  have HI := Lib.hid (Pg.ins_mk c3 (show 0 ≤ n by omega) c4)
  clear h
  go_enter Tryz.func101, Tryz.ntmps101
  go_wp2_with (go_at_call 114; refine (inside_yes _ _ _ (by omega) (by omega) HI.out).mono ?_; rintro e w' ⟨rfl, rfl⟩)
  go_ret
  exact ⟨rfl, rfl⟩
set_option maxRecDepth 100000 in
set_option maxHeartbeats 400000 in
theorem holds_no (a n : Int) (w : World) (h1 : -9223372036854775808 ≤ n) (h2 : n ≤ 9223372036854775807) (h : Pg.numB a n = false) :
    Calls Tryz.prog 101 #[.int .i64 a, .int .i64 n] w fun e w' => e = .returned (.bool false) ∧ w = w' := by
  have hn := Pg.num_no h
  clear h
  by_cases c1 : 1 ≤ n
  · by_cases c2 : n ≤ 4
    · have HI : Hid (Pg.insB a n = false) := Lib.hid (by unfold Pg.insB; rw [decide_eq_false_iff_not]; omega)
      clear hn
      go_enter Tryz.func101, Tryz.ntmps101
      go_wp2_with (go_at_call 114; refine (inside_no _ _ _ (by omega) (by omega) HI.out).mono ?_; rintro e w' ⟨rfl, rfl⟩)
      go_ret
      exact ⟨rfl, rfl⟩
    · clear hn
      go_enter Tryz.func101, Tryz.ntmps101
      go_wp2
      go_ret
      exact ⟨rfl, rfl⟩
  · clear hn
    go_enter Tryz.func101, Tryz.ntmps101
    go_wp2
    go_ret
    exact ⟨rfl, rfl⟩

end Go.Proofs.YtppbiohjhnoagaaGreat

/-
  The contract of page.Get.
-/
namespace Go.Proofs.YtppbiohjhnoagaaGreat
open Go.RowKit
open Dk (zeros zeros_length)

set_option maxRecDepth 100000 in
theorem wraps_i64 (n : Int) (h₀ : 0 ≤ n) (h₁ : n < 2 ^ 62) : IntKind.i64.wrap n = n := by rw [IntKind.wrap_i64]; omega
set_option maxRecDepth 100000 in
theorem or_low (n c : Int) (h0 : 0 ≤ n) (h1 : n < 16777216) (h2 : 0 ≤ c) (h3 : c < 256) : bits BinOp.or IntKind.i64 (n * 256) c = n * 256 + c :=
  bits_join .i64 62 (by decide) wraps_i64 8 (n * 256) c (by omega) (by omega) (by omega) h2 (by omega) (by omega)
set_option maxRecDepth 100000 in
theorem take_one {α : Type} (l : List α) (d : α) (k : Nat) (h : k < l.length) : l.take (k + 1) = l.take k ++ [l.getD k d] := by
  rw [List.take_succ_eq_append_getElem h, List.getD_eq_getElem?_getD, List.getElem?_eq_getElem h]; rfl

set_option maxRecDepth 100000 in
set_option maxHeartbeats 1000000 in
theorem get_yes (p : List UInt8) (a n : Nat) (w : World) (hp : p.length = 64) (h1 : 1 ≤ n) (h2 : n ≤ 4) (h3 : a + n ≤ 64) :
    Calls Tryz.prog 86 #[pageV p, .int .i64 (a : Int), .int .i64 (n : Int)] w fun e w' => e = .returned (.int .i64 (Pg.numOf ((p.drop a).take n))) ∧ Below w.heap.size w w' := by
  have HP := Lib.hid (pageAt_new w p 38 hp)
  have HL : Hid (((p.drop a).take n).length = n) := Lib.hid (by simp [hp]; omega)
  have HB : Hid (Below w.heap.size w (w.alloc (.cells (byteVals p).toArray 38))) := Lib.hid ((Below.refl _ _).alloc (Nat.le_refl _) _)
  have HN : Hid (Pg.numB (a : Int) (n : Int) = true) := Lib.hid (Pg.num_mk (by omega) (by omega) (by omega) (by omega))
  have HG : Hid (∀ k, k < n → ((p.drop a).take n).getD k 0 = p.getD (a + k) 0) := Lib.hid (fun k hk => by
    rw [List.getD_eq_getElem?_getD, List.getD_eq_getElem?_getD, List.getElem?_take, if_pos hk, List.getElem?_drop])
  clear hp
  generalize (p.drop a).take n = l at HL HG ⊢
  have HS := run_slice_page (w.alloc (.cells (byteVals p).toArray 38)) w.heap.size a n h1 h3
  unfold pageV
  go_enter Tryz.func86, Tryz.ntmps86
  go_wp2_with (go_at_call 101; refine (holds_yes _ _ _ HN.out).mono ?_; rintro e w' ⟨rfl, rfl⟩)
  clear HS
  generalize w.alloc (.cells (byteVals p).toArray 38) = w1 at HP HB ⊢
  go_loop [7, 20] (fun x i => ∃ k : Nat, k ≤ n ∧ i = .int .i64 k ∧ x = .int .i64 (Pg.numOf (l.take k))) (fun _ i => n - (intOf i).toNat)
  case atStart => exact ⟨0, Nat.zero_le _, rfl, rfl⟩
  case round =>
    obtain ⟨k, hk, rfl, rfl⟩ := hrel
    by_cases hlt : k < n
    · have HT : Hid (Pg.numOf (l.take (k + 1)) = Pg.numOf (l.take k) * 256 + ((p.getD (a + k) 0).toNat : Int)) := Lib.hid (by
        rw [take_one l 0 k (by rw [HL.out]; exact hlt), Pg.numOf_snoc, HG.out k hlt])
      have hc := HP.out.cell (a + k) (by omega)
      obtain ⟨r1, r2⟩ := Pg.numOf_small (l.take k) (by simp; omega)
      have hb := (p.getD (a + k) 0).toNat_lt
      have ho := or_low (Pg.numOf (l.take k)) ((p.getD (a + k) 0).toNat : Int) r1 r2 (by omega) (by omega)
      generalize p.getD (a + k) 0 = c at hc HT hb ho
      generalize Pg.numOf (l.take k) = x at r1 r2 HT ho ⊢
      go_wp2
      go_round
      case rel => exact ⟨k + 1, by omega, by go_num, by rw [HT.out]⟩
      case measure => simp [intOf]; omega
    · have HK : Hid (l.take k = l) := Lib.hid (List.take_of_length_le (by rw [HL.out]; omega))
      go_wp2
      go_ret
      exact ⟨ret_int (by rw [HK.out]), HB.out⟩

set_option maxRecDepth 100000 in
set_option maxHeartbeats 400000 in
theorem get_no (p : List UInt8) (a n : Int) (w : World) (h1 : -9223372036854775808 ≤ n) (h2 : n ≤ 9223372036854775807) (h : Pg.numB a n = false) :
    Calls Tryz.prog 86 #[pageV p, .int .i64 a, .int .i64 n] w fun e w' => e = .returned (.int .i64 0) ∧ Below w.heap.size w w' := by
  have HN := Lib.hid h; clear h
  unfold pageV
  go_enter Tryz.func86, Tryz.ntmps86
  go_wp2_with (go_at_call 101; refine (holds_no _ _ _ h1 h2 HN.out).mono ?_; rintro e w' ⟨rfl, rfl⟩)
  go_ret
  exact ⟨rfl, (Below.refl _ _).alloc (Nat.le_refl _) _⟩

set_option maxRecDepth 100000 in
theorem get_any (p : List UInt8) (a n : Int) (w : World) (hp : p.length = 64) (h1 : -9223372036854775808 ≤ n) (h2 : n ≤ 9223372036854775807) :
    Calls Tryz.prog 86 #[pageV p, .int .i64 a, .int .i64 n] w fun e w' => e = .returned (.int .i64 (Pg.getN p a n)) ∧ Below w.heap.size w w' := by
  by_cases h : Pg.numB a n = true
  · obtain ⟨c1, c2, c3, c4⟩ := Pg.num_yes h
    obtain ⟨A, rfl⟩ := Int.eq_ofNat_of_zero_le c3
    obtain ⟨N, rfl⟩ := Int.eq_ofNat_of_zero_le (show 0 ≤ n by omega)
    have := get_yes p A N w hp (by omega) (by omega) (by omega)
    unfold Pg.getN
    rw [if_pos h]
    exact this
  · have hf : Pg.numB a n = false := by simpa using h
    have := get_no p a n w h1 h2 hf
    unfold Pg.getN
    rw [if_neg h]
    exact this
end Go.Proofs.YtppbiohjhnoagaaGreat

/-
  The contract of page.Set.
-/
namespace Go.Proofs.YtppbiohjhnoagaaGreat
open Go.RowKit
open Dk (zeros zeros_length)

set_option maxRecDepth 100000 in
/-- what stands before the loop: the page boxed, and the page that is handed back -/
theorem set_start (w : World) (p : List UInt8) (hp : p.length = 64) :
    PageAt ((w.alloc (.cells (byteVals p).toArray 38)).alloc (.cells zeroCells 38)) w.heap.size p ∧ PageAt ((w.alloc (.cells (byteVals p).toArray 38)).alloc (.cells zeroCells 38)) (w.heap.size + 1) zeros ∧
    Below w.heap.size w ((w.alloc (.cells (byteVals p).toArray 38)).alloc (.cells zeroCells 38)) :=
  ⟨(pageAt_new w p _ hp).alloc _, by simpa using pageAt_zeros (w.alloc (.cells (byteVals p).toArray 38)) 38, ((Below.refl _ _).alloc (Nat.le_refl _) _).alloc (by simp) _⟩

set_option maxRecDepth 100000 in
theorem pow_byte (k : Nat) : (2 : Int) ^ (8 * k) = 256 ^ k := by rw [Int.pow_mul]; rfl
set_option maxRecDepth 100000 in
theorem byte_set (v : Int) (k : Nat) : v / 2 ^ (8 * k) % 256 = ((Pg.byteAt k v).toNat : Int) := by rw [Pg.byteAt_nat, pow_byte]
set_option maxRecDepth 100000 in
theorem PageAt.number {w : World} {b : Nat} {p : List UInt8} {j k : Nat} {v : Int} (hp : p.length = 64) (h : PageAt w b (Pg.over p (j + 1) (Pg.bytesN k v))) (hj : j + 1 + k ≤ 64) :
    PageAt (w.setCell ⟨b, j, none⟩ (.int .u8 ((Pg.byteAt k v).toNat : Int))) b (Pg.over p j (Pg.bytesN (k + 1) v)) := by
  have := h.set j (Pg.byteAt k v) (by omega)
  rw [Pg.over_set_before _ _ _ _ (by rw [Pg.bytesN_length]; omega)] at this
  exact this

set_option maxRecDepth 100000 in
set_option maxHeartbeats 1000000 in
theorem set_yes (p : List UInt8) (a n : Nat) (v : Int) (w : World) (hp : p.length = 64) (h1 : 1 ≤ n) (h2 : n ≤ 4) (h3 : a + n ≤ 64) :
    Calls Tryz.prog 93 #[pageV p, .int .i64 (a : Int), .int .i64 (n : Int), .int .i64 v] w fun e w' => e = .returned (pageV (Pg.over p a (Pg.bytesN n v))) ∧ Below w.heap.size w w' := by
  have HS := Lib.hid (set_start w p hp)
  have HL := Lib.hid hp
  have HN : Hid (Pg.numB (a : Int) (n : Int) = true) := Lib.hid (Pg.num_mk (by omega) (by omega) (by omega) (by omega))
  clear hp
  unfold pageV
  go_enter Tryz.func93, Tryz.ntmps93
  go_wp2_with (go_at_call 101; refine (holds_yes _ _ _ HN.out).mono ?_; rintro e w' ⟨rfl, rfl⟩)
  rw [← zeroCells_def]
  generalize (w.alloc (.cells (byteVals p).toArray 38)).alloc (.cells zeroCells 38) = w1 at HS ⊢
  go_loopw [16] (fun i wr => ∃ k : Nat, k ≤ n ∧ i = .int .i64 k ∧ PageAt wr w.heap.size (Pg.over p (a + n - k) (Pg.bytesN k v)) ∧ PageAt wr (w.heap.size + 1) zeros ∧ Below w.heap.size w wr) (fun i _ => n - (intOf i).toNat)
  case atStart => exact ⟨0, Nat.zero_le _, rfl, by rw [Pg.bytesN, Pg.over_nil]; exact HS.out.1, HS.out.2.1, HS.out.2.2⟩
  case round =>
    obtain ⟨k, hk, rfl, hp1, hp2, hbel⟩ := hrel
    by_cases hlt : k < n
    · obtain ⟨j, hj⟩ : ∃ j, a + n = j + 1 + k := ⟨a + n - 1 - k, by omega⟩
      have hidx : (a : Int) + (n : Int) - 1 - (k : Int) = (j : Int) := by omega
      have hc := hp1.cell j (by omega)
      have hf := hp1.frozen j (by omega)
      have hj64 : j < 64 := by omega
      have HJ := Lib.hid hj; clear hj
      have HP1 := Lib.hid hp1; clear hp1
      have HV := Lib.hid (byte_set v k)
      go_wp2
      go_roundw
      case rel =>
        refine ⟨k + 1, by omega, by go_num, ?_, ?_, ?_⟩
        · rw [HV.out, show a + n - (k + 1) = j by have := HJ.out; omega]
          refine PageAt.number HL.out ?_ (by have := HJ.out; omega)
          rw [show j + 1 = a + n - k by have := HJ.out; omega]
          exact HP1.out
        · exact hp2.set_other _ _ _ (by omega)
        · exact hbel.setCell (Nat.le_refl _) _
      case measure => simp [intOf]; omega
    · obtain rfl : k = n := by omega
      have HP1 := Lib.hid hp1
      clear hp1
      have HQ : Hid ((Pg.over p (a + k - k) (Pg.bytesN k v)) = Pg.over p a (Pg.bytesN k v)) := Lib.hid (by rw [Nat.add_sub_cancel])
      rw [HQ.out] at HP1
      clear HQ
      have HQ := Lib.hid HP1.out.len
      go_wp2_with (first
        | (with_reducible refine wpList_load_page HP1.out rfl (.tmp 4) rfl rfl ?_)
        | (with_reducible refine wpList_store_page hp2 HQ.out rfl (.tmp 8) (.tmp 32) rfl rfl rfl ?_))
      exact bodyPost_ret (results_page _ 8 rfl _ (hp2.put _ HQ.out) rfl) rfl ⟨rfl, below_setCells _ (by omega) _ _ _ hbel⟩

set_option maxRecDepth 100000 in
set_option maxHeartbeats 400000 in
theorem set_no (p : List UInt8) (a n v : Int) (w : World) (hp : p.length = 64) (h1 : -9223372036854775808 ≤ n) (h2 : n ≤ 9223372036854775807) (h : Pg.numB a n = false) :
    Calls Tryz.prog 93 #[pageV p, .int .i64 a, .int .i64 n, .int .i64 v] w fun e w' => e = .returned (pageV p) ∧ Below w.heap.size w w' := by
  have HN := Lib.hid h; clear h
  have HS := Lib.hid (set_start w p hp)
  have HL := Lib.hid hp; clear hp
  unfold pageV
  go_enter Tryz.func93, Tryz.ntmps93
  go_wp2_with fail
  refine (holds_no _ _ _ h1 h2 HN.out).mono ?_
  rintro e w' ⟨rfl, rfl⟩
  rw [← zeroCells_def]
  generalize (w.alloc (.cells (byteVals p).toArray 38)).alloc (.cells zeroCells 38) = w1 at HS ⊢
  go_wp2_with (first
    | (with_reducible refine wpList_load_page HS.out.1 rfl (.tmp 4) rfl rfl ?_)
    | (with_reducible refine wpList_store_page HS.out.2.1 HL.out rfl (.tmp 8) (.tmp 14) rfl rfl rfl ?_))
  exact bodyPost_ret (results_page _ 8 rfl _ (HS.out.2.1.put _ HL.out) rfl) rfl ⟨rfl, below_setCells _ (by omega) _ _ _ HS.out.2.2⟩

set_option maxRecDepth 100000 in
theorem set_any (p : List UInt8) (a n v : Int) (w : World) (hp : p.length = 64) (h1 : -9223372036854775808 ≤ n) (h2 : n ≤ 9223372036854775807) :
    Calls Tryz.prog 93 #[pageV p, .int .i64 a, .int .i64 n, .int .i64 v] w fun e w' => e = .returned (pageV (Pg.setN p a n v)) ∧ Below w.heap.size w w' := by
  by_cases h : Pg.numB a n = true
  · obtain ⟨c1, c2, c3, c4⟩ := Pg.num_yes h
    obtain ⟨A, rfl⟩ := Int.eq_ofNat_of_zero_le c3
    obtain ⟨N, rfl⟩ := Int.eq_ofNat_of_zero_le (show 0 ≤ n by omega)
    have := set_yes p A N v w hp (by omega) (by omega) (by omega)
    unfold Pg.setN
    rw [if_pos h]
    exact this
  · have hf : Pg.numB a n = false := by simpa using h
    have := set_no p a n v w hp h1 h2 hf
    unfold Pg.setN
    rw [if_neg h]
    exact this
end Go.Proofs.YtppbiohjhnoagaaGreat
