/-
  The contracts of sum.More and sum.Sum over a row of texts, and of awake.
-/
import Derived.Test.YtedoafnjglikdaaLeaf
namespace Go.Proofs.Ytedoafnjglikdaa
open Go.RowKit

def bytesOf (ss : List ByteArray) : List UInt8 := ss.flatMap fun s => s.data.toList
theorem bytesOf_snoc (ss : List ByteArray) (s : ByteArray) : bytesOf (ss ++ [s]) = bytesOf ss ++ s.data.toList := by simp [bytesOf]
theorem bytesOf_append (ss tt : List ByteArray) : bytesOf (ss ++ tt) = bytesOf ss ++ bytesOf tt := by simp [bytesOf]

/-- a row of texts in memory: n texts from A on -/
structure StrRow (w : World) (A : Option Addr) (n : Nat) (ss : List ByteArray) : Prop where
  len : ss.length = n
  small : n ≤ maxLen
  fit : ∀ i, (ss.getD i ByteArray.empty).size ≤ maxLen
  cells : 0 < n → ∃ b off, A = some ⟨b, off, none⟩ ∧ b < w.heap.size ∧ ∀ i, i < n → w.cell? ⟨b, off + i, none⟩ = some (.string (ss.getD i ByteArray.empty))

theorem take_one (ss : List ByteArray) (k : Nat) (h : k < ss.length) : ss.take (k + 1) = ss.take k ++ [ss.getD k ByteArray.empty] := by
  rw [List.take_succ_eq_append_getElem h, List.getD_eq_getElem?_getD, List.getElem?_eq_getElem h]; rfl

set_option maxHeartbeats 400000 in
theorem more_zero (x : Int) (A : Option Addr) (c : Nat) (w : World) (h0 : 0 ≤ x) (h1 : x < 4294967296) :
    Calls Try.prog 13 #[.int .u32 x, .slice A 0 c] w fun e w' => e = .returned (.int .u32 (Mt.joinN (Mt.splitN x))) ∧ w = w' := by
  have hf := Mt.fit_split x
  obtain ⟨f1, f2, f3, f4⟩ := hf
  go_enter Try.func13, Try.ntmps13
  go_wp2_with (go_at_call 15; refine (split_any _ _ (by omega) (by omega)).mono ?_; rintro e w' ⟨rfl, rfl⟩)
  go_loop [5, 6, 16] (fun a d i => a = .int .u32 (Mt.splitN x).1 ∧ d = .int .u32 (Mt.splitN x).2 ∧ i = .int .i64 0) (fun _ _ _ => 0)
  case atStart => exact ⟨rfl, rfl, rfl⟩
  case round =>
    obtain ⟨rfl, rfl, rfl⟩ := hrel
    go_wp2_with (go_at_call 17; refine (join_any _ _ _ f1 f2 f3 f4).mono ?_; rintro e w' ⟨rfl, rfl⟩)
    go_ret
    exact ⟨rfl, rfl⟩

set_option maxHeartbeats 400000 in
theorem more_row (x : Int) (b off n c : Nat) (ss : List ByteArray) (w : World) (h0 : 0 ≤ x) (h1 : x < 4294967296) (hl : ss.length = n) (hn : n ≤ maxLen)
    (hfit : ∀ i, (ss.getD i ByteArray.empty).size ≤ maxLen) (hcell : ∀ i, i < n → w.cell? ⟨b, off + i, none⟩ = some (.string (ss.getD i ByteArray.empty))) :
    Calls Try.prog 13 #[.int .u32 x, .slice (some ⟨b, off, none⟩) n c] w fun e w' => e = .returned (.int .u32 (Mt.joinN (Mt.run (Mt.splitN x) (bytesOf ss)))) ∧ w = w' := by
  unfold maxLen at hn
  have hf := Mt.fit_split x
  have HC := Lib.hid hcell; clear hcell
  have HL := Lib.hid hl; clear hl
  have HF := Lib.hid hfit; clear hfit
  go_enter Try.func13, Try.ntmps13
  go_wp2_with (go_at_call 15; refine (split_any _ _ (by omega) (by omega)).mono ?_; rintro e w' ⟨rfl, rfl⟩)
  go_loop [5, 6, 16] (fun a d i => ∃ k : Nat, k ≤ n ∧ i = .int .i64 k ∧ a = .int .u32 (Mt.run (Mt.splitN x) (bytesOf (ss.take k))).1 ∧ d = .int .u32 (Mt.run (Mt.splitN x) (bytesOf (ss.take k))).2) (fun _ _ i => n - (intOf i).toNat)
  case atStart => exact ⟨0, Nat.zero_le _, rfl, rfl, rfl⟩
  case round =>
    obtain ⟨k, hk, rfl, rfl, rfl⟩ := hrel
    have hr := Mt.fit_run (Mt.splitN x) (bytesOf (ss.take k)) hf
    obtain ⟨r1, r2, r3, r4⟩ := id hr
    have HR := Lib.hid hr; clear hr
    by_cases hlt : k < n
    · have HS : Hid (Mt.run (Mt.splitN x) (bytesOf (ss.take (k + 1))) = Mt.run (Mt.run (Mt.splitN x) (bytesOf (ss.take k))) (ss.getD k ByteArray.empty).data.toList) :=
        Lib.hid (by rw [take_one ss k (by rw [HL.out]; exact hlt), bytesOf_snoc, Mt.run_append])
      have hc := HC.out k hlt
      have HZ := Lib.hid (HF.out k)
      generalize ss.getD k ByteArray.empty = s at hc HS HZ
      go_wp2_with (go_at_call 16; refine (add_any _ _ s _ HR.out HZ.out).mono ?_; rintro e w' ⟨rfl, rfl⟩)
      go_round
      case rel => exact ⟨k + 1, by omega, by go_num, by rw [HS.out]; rfl, by rw [HS.out]; rfl⟩
      case measure => simp [intOf]; omega
    · have HK : Hid (ss.take k = ss) := Lib.hid (List.take_of_length_le (by rw [HL.out]; omega))
      go_wp2_with (go_at_call 17; refine (join_any _ _ _ r1 r2 r3 r4).mono ?_; rintro e w' ⟨rfl, rfl⟩)
      go_ret
      exact ⟨ret_int (by rw [HK.out]), rfl⟩

theorem more_any (x : Int) (A : Option Addr) (n c : Nat) (ss : List ByteArray) (w : World) (h0 : 0 ≤ x) (h1 : x < 4294967296) (h : StrRow w A n ss) :
    Calls Try.prog 13 #[.int .u32 x, .slice A n c] w fun e w' => e = .returned (.int .u32 (Mt.joinN (Mt.run (Mt.splitN x) (bytesOf ss)))) ∧ w = w' := by
  by_cases hn : n = 0
  · subst hn
    have hs : ss = [] := List.eq_nil_of_length_eq_zero h.len
    subst hs
    exact more_zero x A c w h0 h1
  · obtain ⟨b, off, rfl, _, hc⟩ := h.cells (by omega)
    exact more_row x b off n c ss w h0 h1 h.len h.small h.fit hc

set_option maxHeartbeats 400000 in
theorem sum_any (A : Option Addr) (n c : Nat) (ss : List ByteArray) (w : World) (h : StrRow w A n ss) :
    Calls Try.prog 11 #[.slice A n c] w fun e w' => e = .returned (.int .u32 (Mt.joinN (Mt.run (0, 0) (bytesOf ss)))) ∧ w = w' := by
  go_enter Try.func11, Try.ntmps11
  go_wp2_with (go_at_call 13; refine (more_any _ _ _ _ ss _ (by omega) (by omega) h).mono ?_; rintro e w' ⟨rfl, rfl⟩)
  go_ret
  exact ⟨rfl, rfl⟩

theorem strRow_one (w : World) (s : ByteArray) (hs : s.size ≤ maxLen) : StrRow (w.alloc (.cells #[.string s] 9)) (some ⟨w.heap.size, 0, none⟩) 1 [s] where
  len := rfl
  small := by unfold maxLen; omega
  fit := fun i => by
    rcases i with _ | i
    · exact hs
    · simp [maxLen]
  cells := fun _ => ⟨w.heap.size, 0, rfl, by simp, fun i hi => by
    obtain rfl : i = 0 := by omega
    simp [go_sem]⟩

theorem strRow_three (w : World) (s t u : ByteArray) (hs : s.size ≤ maxLen) (ht : t.size ≤ maxLen) (hu : u.size ≤ maxLen) : StrRow (w.alloc (.cells #[.string s, .string t, .string u] 9)) (some ⟨w.heap.size, 0, none⟩) 3 [s, t, u] where
  len := rfl
  small := by unfold maxLen; omega
  fit := fun i => by
    rcases i with _ | _ | _ | i
    · exact hs
    · exact ht
    · exact hu
    · simp [maxLen]
  cells := fun _ => ⟨w.heap.size, 0, rfl, by simp, fun i hi => by
    rcases i with _ | _ | _ | i
    · simp [go_sem]
    · simp [go_sem]
    · simp [go_sem]
    · omega⟩
theorem strRow_nil (w : World) : StrRow w none 0 [] where
  len := rfl
  small := by unfold maxLen; omega
  fit := fun i => by simp [maxLen]
  cells := fun h => by omega

theorem val_abc : Mt.joinN (Mt.run (0, 0) (bytesOf [⟨#[97, 98, 99]⟩])) = 38404390 := by decide
theorem val_a_bc : Mt.joinN (Mt.run (0, 0) (bytesOf [⟨#[97]⟩, ⟨#[]⟩, ⟨#[98, 99]⟩])) = 38404390 := by decide
theorem val_none : Mt.joinN (Mt.run (0, 0) (bytesOf [])) = 0 := by decide
theorem sum_abc (w : World) : Calls Try.prog 11 #[.slice (some ⟨w.heap.size, 0, none⟩) 1 1] (w.alloc (.cells #[.string ⟨#[97, 98, 99]⟩] 9)) fun e w' => e = .returned (.int .u32 38404390) ∧ w.alloc (.cells #[.string ⟨#[97, 98, 99]⟩] 9) = w' := by
  have h := sum_any (some ⟨w.heap.size, 0, none⟩) 1 1 _ _ (strRow_one w ⟨#[97, 98, 99]⟩ (by decide))
  rw [val_abc] at h
  exact h
theorem sum_a_bc (w : World) (b : Nat) (hb : b = w.heap.size) : Calls Try.prog 11 #[.slice (some ⟨b, 0, none⟩) 3 3] (w.alloc (.cells #[.string ⟨#[97]⟩, .string ⟨#[]⟩, .string ⟨#[98, 99]⟩] 9)) fun e w' => e = .returned (.int .u32 38404390) ∧ w.alloc (.cells #[.string ⟨#[97]⟩, .string ⟨#[]⟩, .string ⟨#[98, 99]⟩] 9) = w' := by
  subst hb
  have h := sum_any (some ⟨w.heap.size, 0, none⟩) 3 3 _ _ (strRow_three w ⟨#[97]⟩ ⟨#[]⟩ ⟨#[98, 99]⟩ (by decide) (by decide) (by decide))
  rw [val_a_bc] at h
  exact h
theorem sum_none (w : World) : Calls Try.prog 11 #[.slice none 0 0] w fun e w' => e = .returned (.int .u32 0) ∧ w = w' := by
  have h := sum_any none 0 0 _ _ (strRow_nil w)
  rw [val_none] at h
  exact h
set_option maxHeartbeats 400000 in
theorem awake_any (w : World) :
    Calls Try.prog 8 #[] w fun e w' => e = .returned (.bool true) ∧ Below w.heap.size w w' := by
  go_enter Try.func8, Try.ntmps8
  go_wp2_with fail
  refine (sum_abc w).mono ?_
  rintro e w' ⟨rfl, rfl⟩
  go_wp2_with fail
  refine (sum_a_bc (w.alloc _) (w.heap.size + 1) (by simp)).mono ?_
  rintro e w' ⟨rfl, rfl⟩
  go_wp2_with fail
  refine (sum_none _).mono ?_
  rintro e w' ⟨rfl, rfl⟩
  go_wp2_with fail
  go_ret
  exact ⟨rfl, ((Below.refl _ _).alloc (Nat.le_refl _) _).alloc (by simp) _⟩
end Go.Proofs.Ytedoafnjglikdaa
