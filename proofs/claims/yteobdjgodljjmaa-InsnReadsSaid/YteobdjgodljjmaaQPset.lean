/-
  The contract of page.Set.
-/
import Derived.Test.YteobdjgodljjmaaQPget
namespace Go.Proofs.Yteobdjgodljjmaa.Pq
open Go.RowKit
open Dk (zeros zeros_length)

set_option maxRecDepth 100000 in
/-- what stands before the loop: the page boxed, and the page that is handed back -/
theorem set_start (w : World) (p : List UInt8) (hp : p.length = 64) :
    PageAt ((w.alloc (.cells (byteVals p).toArray 67)).alloc (.cells zeroCells 67)) w.heap.size p ∧ PageAt ((w.alloc (.cells (byteVals p).toArray 67)).alloc (.cells zeroCells 67)) (w.heap.size + 1) zeros ∧
    Below w.heap.size w ((w.alloc (.cells (byteVals p).toArray 67)).alloc (.cells zeroCells 67)) :=
  ⟨(pageAt_new w p _ hp).alloc _, by simpa using pageAt_zeros (w.alloc (.cells (byteVals p).toArray 67)) 67, ((Below.refl _ _).alloc (Nat.le_refl _) _).alloc (by simp) _⟩

set_option maxRecDepth 100000 in
theorem pow_byte (k : Nat) : (2 : Int) ^ (8 * k) = 256 ^ k := by rw [Int.pow_mul]; rfl
set_option maxRecDepth 100000 in
theorem byte_set (v : Int) (k : Nat) : v / 2 ^ (8 * k) % 256 = ((Pg.byteAt k v).toNat : Int) := by rw [Pg.byteAt_nat, pow_byte]
set_option maxRecDepth 100000 in
theorem PageAt.number {w : World} {b : Nat} {p : List UInt8} {j k : Nat} {v : Int} (hp : p.length = 64) (h : PageAt w b (Pg.over p (j + 1) (Pg.bytesN k v))) (hj : j + 1 + k ≤ 64) :
    PageAt (w.setCell ⟨b, j, none⟩ (.int .u8 ((Pg.byteAt k v).toNat : Int))) b (Pg.over p j (Pg.bytesN (k + 1) v)) := by
  have := h.set j (Pg.byteAt k v) (by omega)
  rw [Pg.over_set_before _ _ _ _ (by rw [Pg.bytesN_length]; omega)] at this
  exact this

set_option maxRecDepth 100000 in
set_option maxHeartbeats 1000000 in
theorem set_yes (p : List UInt8) (a n : Nat) (v : Int) (w : World) (hp : p.length = 64) (h1 : 1 ≤ n) (h2 : n ≤ 4) (h3 : a + n ≤ 64) :
    Calls Try.prog 33 #[pageV p, .int .i64 (a : Int), .int .i64 (n : Int), .int .i64 v] w fun e w' => e = .returned (pageV (Pg.over p a (Pg.bytesN n v))) ∧ Below w.heap.size w w' := by
  have HS := Lib.hid (set_start w p hp)
  have HL := Lib.hid hp
  have HN : Hid (Pg.numB (a : Int) (n : Int) = true) := Lib.hid (Pg.num_mk (by omega) (by omega) (by omega) (by omega))
  clear hp
  unfold pageV
  go_enter Try.func33, Try.ntmps33
  go_wp2_with (go_at_call 41; refine (holds_yes _ _ _ HN.out).mono ?_; rintro e w' ⟨rfl, rfl⟩)
  rw [← zeroCells_def]
  generalize (w.alloc (.cells (byteVals p).toArray 67)).alloc (.cells zeroCells 67) = w1 at HS ⊢
  go_loopw [16] (fun i wr => ∃ k : Nat, k ≤ n ∧ i = .int .i64 k ∧ PageAt wr w.heap.size (Pg.over p (a + n - k) (Pg.bytesN k v)) ∧ PageAt wr (w.heap.size + 1) zeros ∧ Below w.heap.size w wr) (fun i _ => n - (intOf i).toNat)
  case atStart => exact ⟨0, Nat.zero_le _, rfl, by rw [Pg.bytesN, Pg.over_nil]; exact HS.out.1, HS.out.2.1, HS.out.2.2⟩
  case round =>
    obtain ⟨k, hk, rfl, hp1, hp2, hbel⟩ := hrel
    by_cases hlt : k < n
    · obtain ⟨j, hj⟩ : ∃ j, a + n = j + 1 + k := ⟨a + n - 1 - k, by omega⟩
      have hidx : (a : Int) + (n : Int) - 1 - (k : Int) = (j : Int) := by omega
      have hc := hp1.cell j (by omega)
      have hf := hp1.frozen j (by omega)
      have hj64 : j < 64 := by omega
      have HJ := Lib.hid hj; clear hj
      have HP1 := Lib.hid hp1; clear hp1
      have HV := Lib.hid (byte_set v k)
      go_wp2
      go_roundw
      case rel =>
        refine ⟨k + 1, by omega, by go_num, ?_, ?_, ?_⟩
        · rw [HV.out, show a + n - (k + 1) = j by have := HJ.out; omega]
          refine PageAt.number HL.out ?_ (by have := HJ.out; omega)
          rw [show j + 1 = a + n - k by have := HJ.out; omega]
          exact HP1.out
        · exact hp2.set_other _ _ _ (by omega)
        · exact hbel.setCell (Nat.le_refl _) _
      case measure => simp [intOf]; omega
    · obtain rfl : k = n := by omega
      have HP1 := Lib.hid hp1
      clear hp1
      have HQ : Hid ((Pg.over p (a + k - k) (Pg.bytesN k v)) = Pg.over p a (Pg.bytesN k v)) := Lib.hid (by rw [Nat.add_sub_cancel])
      rw [HQ.out] at HP1
      clear HQ
      have HQ := Lib.hid HP1.out.len
      go_wp2_with (first
        | (with_reducible refine wpList_load_page HP1.out rfl (.tmp 4) rfl rfl ?_)
        | (with_reducible refine wpList_store_page hp2 HQ.out rfl (.tmp 8) (.tmp 32) rfl rfl rfl ?_))
      exact bodyPost_ret (results_page _ 8 rfl _ (hp2.put _ HQ.out) rfl) rfl ⟨rfl, below_setCells _ (by omega) _ _ _ hbel⟩

set_option maxRecDepth 100000 in
set_option maxHeartbeats 400000 in
theorem set_no (p : List UInt8) (a n v : Int) (w : World) (hp : p.length = 64) (h1 : -9223372036854775808 ≤ n) (h2 : n ≤ 9223372036854775807) (h : Pg.numB a n = false) :
    Calls Try.prog 33 #[pageV p, .int .i64 a, .int .i64 n, .int .i64 v] w fun e w' => e = .returned (pageV p) ∧ Below w.heap.size w w' := by
  have HN := Lib.hid h; clear h
  have HS := Lib.hid (set_start w p hp)
  have HL := Lib.hid hp; clear hp
  unfold pageV
  go_enter Try.func33, Try.ntmps33
  go_wp2_with fail
  refine (holds_no _ _ _ h1 h2 HN.out).mono ?_
  rintro e w' ⟨rfl, rfl⟩
  rw [← zeroCells_def]
  generalize (w.alloc (.cells (byteVals p).toArray 67)).alloc (.cells zeroCells 67) = w1 at HS ⊢
  go_wp2_with (first
    | (with_reducible refine wpList_load_page HS.out.1 rfl (.tmp 4) rfl rfl ?_)
    | (with_reducible refine wpList_store_page HS.out.2.1 HL.out rfl (.tmp 8) (.tmp 14) rfl rfl rfl ?_))
  exact bodyPost_ret (results_page _ 8 rfl _ (HS.out.2.1.put _ HL.out) rfl) rfl ⟨rfl, below_setCells _ (by omega) _ _ _ HS.out.2.2⟩

set_option maxRecDepth 100000 in
theorem set_any (p : List UInt8) (a n v : Int) (w : World) (hp : p.length = 64) (h1 : -9223372036854775808 ≤ n) (h2 : n ≤ 9223372036854775807) :
    Calls Try.prog 33 #[pageV p, .int .i64 a, .int .i64 n, .int .i64 v] w fun e w' => e = .returned (pageV (Pg.setN p a n v)) ∧ Below w.heap.size w w' := by
  by_cases h : Pg.numB a n = true
  · obtain ⟨c1, c2, c3, c4⟩ := Pg.num_yes h
    obtain ⟨A, rfl⟩ := Int.eq_ofNat_of_zero_le c3
    obtain ⟨N, rfl⟩ := Int.eq_ofNat_of_zero_le (show 0 ≤ n by omega)
    have := set_yes p A N v w hp (by omega) (by omega) (by omega)
    unfold Pg.setN
    rw [if_pos h]
    exact this
  · have hf : Pg.numB a n = false := by simpa using h
    have := set_no p a n v w hp h1 h2 hf
    unfold Pg.setN
    rw [if_neg h]
    exact this
end Go.Proofs.Yteobdjgodljjmaa.Pq
