/-
  The contracts of the statements' own functions: full, awake.
-/
import Derived.Test.YtaiikpfgnamgiaaDcrashw
namespace Go.Proofs.Ytaiikpfgnamgiaa
open Go.RowKit
open Dk (zeros zeros_length)

/-! ### full -/
def filled (k : Nat) (c : UInt8) : List UInt8 := List.replicate k c ++ List.replicate (64 - k) 0
theorem filled_set (k : Nat) (c : UInt8) (h : k < 64) : (filled k c).set k c = filled (k + 1) c := by
  unfold filled
  obtain ⟨r, hr⟩ : ∃ r, 64 - k = r + 1 := ⟨63 - k, by omega⟩
  rw [hr, show 64 - (k + 1) = r by omega, List.replicate_succ, List.set_append_right _ _ (by simp)]
  simp [List.replicate_succ']
theorem filled_zero (c : UInt8) : filled 0 c = zeros := by unfold filled; simp; rfl
theorem filled_all (c : UInt8) : filled 64 c = List.replicate 64 c := by unfold filled; simp
theorem full_start (w : World) :
    PageAt ((w.alloc (.cells zeroCells 31)).alloc (.cells zeroCells 31)) w.heap.size zeros ∧ PageAt ((w.alloc (.cells zeroCells 31)).alloc (.cells zeroCells 31)) (w.heap.size + 1) zeros ∧
    Below w.heap.size w ((w.alloc (.cells zeroCells 31)).alloc (.cells zeroCells 31)) :=
  ⟨(pageAt_zeros w 31).alloc _, by simpa using pageAt_zeros (w.alloc (.cells zeroCells 31)) 31, ((Below.refl _ _).alloc (Nat.le_refl _) _).alloc (by simp) _⟩
set_option maxHeartbeats 1000000 in
theorem full_any (c : UInt8) (w : World) : Calls Try.prog 25 #[.int .u8 (c.toNat : Int)] w fun e w' => e = .returned (pageV (List.replicate 64 c)) ∧ Below w.heap.size w w' := by
  have HS := Lib.hid (full_start w)
  obtain ⟨q, hq⟩ : ∃ q, q = List.replicate 64 c := ⟨_, rfl⟩
  rw [← hq]
  have HQ := Lib.hid hq
  clear hq
  go_enter Try.func25, Try.ntmps25
  go_wp2_with fail
  rw [← zeroCells_def]
  generalize (w.alloc (.cells zeroCells 31)).alloc (.cells zeroCells 31) = w1 at HS ⊢
  go_loopw [5] (fun i wr => ∃ k : Nat, k ≤ 64 ∧ i = .int .i64 k ∧ PageAt wr (w.heap.size + 1) (filled k c) ∧ PageAt wr w.heap.size zeros ∧ Below w.heap.size w wr) (fun i _ => 64 - (intOf i).toNat)
  case atStart => exact ⟨0, by omega, rfl, by rw [filled_zero]; exact HS.out.2.1, HS.out.1, HS.out.2.2⟩
  case round =>
    obtain ⟨k, hk, rfl, hp, hz, hb⟩ := hrel
    by_cases hlt : k < 64
    · have HP := Lib.hid (hp.set k c hlt)
      have HZ := Lib.hid (hz.set_other (w.heap.size + 1) k (.int .u8 (c.toNat : Int)) (by omega))
      have HB := Lib.hid (hb.setCell (p := ⟨w.heap.size + 1, k, none⟩) (by show w.heap.size ≤ w.heap.size + 1; omega) (.int .u8 (c.toNat : Int)))
      have hc := hp.cell k hlt
      have hf := hp.frozen k hlt
      clear hp hz hb
      go_wp2
      go_roundw
      case rel => exact ⟨k + 1, by omega, by go_num, by rw [← filled_set k c hlt]; exact HP.out, HZ.out, HB.out⟩
      case measure => simp [intOf]; omega
    · obtain rfl : k = 64 := by omega
      rw [filled_all, ← HQ.out] at hp
      have HP := Lib.hid hp
      have HL := Lib.hid hp.len
      have HZ := Lib.hid hz
      clear hp hz
      go_wp2_with (first
        | (with_reducible refine wpList_load_page HP.out rfl (.tmp 3) rfl rfl ?_)
        | (with_reducible refine wpList_store_page HZ.out HL.out rfl (.tmp 2) (.tmp 12) rfl rfl rfl ?_))
      exact bodyPost_ret (results_page _ 2 rfl _ (HZ.out.put _ HL.out) rfl) rfl ⟨rfl, below_setCells _ (Nat.le_refl _) _ _ _ hb⟩
theorem full_one (w : World) : Calls Try.prog 25 #[.int .u8 1] w fun e w' => e = .returned (pageV (List.replicate 64 1)) ∧ Below w.heap.size w w' := full_any 1 w
theorem full_two (w : World) : Calls Try.prog 25 #[.int .u8 2] w fun e w' => e = .returned (pageV (List.replicate 64 2)) ∧ Below w.heap.size w w' := full_any 2 w

/-! ### awake -/
def a0 : Dk.St := Dk.fresh 2
def a1 : Dk.St := Dk.write a0 0 (List.replicate 64 1)
def a2 : Dk.St := Dk.flush a1
def a3 : Dk.St := Dk.write a2 0 (List.replicate 64 2)
def a4 : Dk.St := Dk.crash a3 [3]
def aP : List UInt8 := Dk.readP a4 0
theorem a0_write : Dk.writeE a0 0 = 0 := by decide +kernel
theorem a1_flush : Dk.flushE a1 = 0 := by decide +kernel
theorem a2_write : Dk.writeE a2 0 = 0 := by decide +kernel
theorem a4_read : Dk.reachE a4 0 = 0 := by decide +kernel
theorem aP_two : (aP.getD 2 0).toNat = 2 := by decide +kernel
theorem aP_three : (aP.getD 3 0).toNat = 1 := by decide +kernel
/-- a slice that the call has just built of one byte -/
theorem keep_one (w : World) (x : UInt8) (t : TypeId) (L : List Nat) (hL : ∀ k ∈ L, k < w.heap.size) : KeepAt (w.alloc (.cells #[.int .u8 (x.toNat : Int)] t)) (some ⟨w.heap.size, 0, none⟩) 1 [x] L where
  small := by simp
  room := by simp
  cells := fun _ => ⟨w.heap.size, 0, rfl, by simp, fun q => by have := hL _ q; omega, fun j hj => by
    have : j = 0 := by simp at hj; omega
    subst this
    simp [go_sem]⟩
/-- a disk that the call has made, and nothing that was there has turned -/
structure Live (w0 : World) (d l m : Nat) (s : Dk.St) (W : World) : Prop where
  disk : DiskAt W d l m s
  below : Below w0.heap.size w0 W
  old : w0.heap.size ≤ d ∧ w0.heap.size ≤ l ∧ w0.heap.size ≤ m
theorem Live.byBelow {w0 : World} {d l m : Nat} {s : Dk.St} {W W' : World} (h : Live w0 d l m s W) (hb : Below W.heap.size W W') : Live w0 d l m s W' := ⟨h.disk.below hb, h.below.trans (hb.mono h.below.size), h.old⟩
theorem Live.byOnly {w0 : World} {d l m : Nat} {s s' : Dk.St} {W W' : World} {L : List Nat} (h : Live w0 d l m s W) (hd : DiskAt W' d l m s') (ho : Only L W W') (hL : ∀ k ∈ L, k = d ∨ k = l ∨ k = m) : Live w0 d l m s' W' :=
  ⟨hd, Only.toBelowOld h.below ho h.below.size (fun k hk => by have := h.old; rcases hL k hk with rfl | rfl | rfl <;> omega), h.old⟩
theorem Live.byAlloc {w0 : World} {d l m : Nat} {s : Dk.St} {W : World} (h : Live w0 d l m s W) (o : Obj) : Live w0 d l m s (W.alloc o) := h.byBelow ((Below.refl _ _).alloc (Nat.le_refl _) _)
theorem Live.start (w : World) (n : Nat) (h1 : 1 ≤ n) (h2 : n ≤ 512) : Live w (w.heap.size + 2) w.heap.size (w.heap.size + 1) (Dk.fresh n) (newWorld w n) := ⟨newWorld_disk w n h1 h2, newWorld_below w n, by omega, by omega, by omega⟩
theorem Live.lts {w0 : World} {d l m : Nat} {s : Dk.St} {W : World} (h : Live w0 d l m s W) : ∀ k ∈ [d, l, m], k < W.heap.size := fun k hk => by
  simp at hk
  rcases hk with rfl | rfl | rfl
  · exact h.disk.dlt
  · exact h.disk.llt
  · exact h.disk.mlt
set_option maxHeartbeats 2000000 in
theorem awake_any (w : World) : Calls Try.prog 7 #[] w fun e w' => e = .returned (.bool true) ∧ Below w.heap.size w w' := by
  have HD0 : Hid (Live w (w.heap.size + 2) w.heap.size (w.heap.size + 1) a0 (newWorld w 2)) := Lib.hid (Live.start w 2 (by omega) (by omega))
  have HNW : Hid (Calls Try.prog 8 #[.int .i64 2] w fun e w' => e = .returned (.tuple #[.pointer (some ⟨w.heap.size + 2, 0, none⟩), .int .i64 0]) ∧ w' = newWorld w 2) := Lib.hid (new_any 2 w (by omega) (by omega))
  have HL1 : Hid ((List.replicate 64 (1 : UInt8)).length = 64) := Lib.hid (by simp)
  have HL2 : Hid ((List.replicate 64 (2 : UInt8)).length = 64) := Lib.hid (by simp)
  go_enter Try.func7, Try.ntmps7
  go_wp2_with fail
  refine HNW.out.mono ?_
  rintro e w1 ⟨rfl, rfl⟩
  clear HNW
  generalize newWorld w 2 = w1 at HD0 ⊢
  generalize w.heap.size + 2 = d at HD0 ⊢
  generalize w.heap.size + 1 = m at HD0
  generalize hl : w.heap.size = l at HD0
  clear hl
  go_wp2_with fail
  refine (full_one _).mono ?_
  rintro e w2 ⟨rfl, hb2⟩
  have HD1 := Lib.hid (HD0.out.byBelow hb2)
  have HW1 : Hid (Calls Try.prog 10 #[.pointer (some ⟨d, 0, none⟩), .int .i64 0, pageV (List.replicate 64 1)] w2 fun e w' => e = .returned (.int .i64 0) ∧ DiskAt w' d l m a1 ∧ Only [d, m] w2 w') := Lib.hid (by
    have := write_any HD1.out.disk 0 (List.replicate 64 1) HL1.out
    rw [a0_write] at this
    exact this)
  clear HD0 hb2
  generalize List.replicate 64 (1 : UInt8) = q1 at HW1 ⊢
  go_wp2_with fail
  refine HW1.out.mono ?_
  rintro e w3 ⟨rfl, hd3, ho3⟩
  have HD3 := Lib.hid (HD1.out.byOnly hd3 ho3 (by simp))
  have HF : Hid (Calls Try.prog 14 #[.pointer (some ⟨d, 0, none⟩)] w3 fun e w' => e = .returned (.int .i64 0) ∧ DiskAt w' d l m a2 ∧ Only [d, l, m] w3 w') := Lib.hid (by
    have := flush_any HD3.out.disk
    rw [a1_flush] at this
    exact this)
  clear HW1 HD1 hd3 ho3
  go_wp2_with fail
  refine HF.out.mono ?_
  rintro e w4 ⟨rfl, hd4, ho4⟩
  have HD4 := Lib.hid (HD3.out.byOnly hd4 ho4 (by simp))
  clear HF HD3 hd4 ho4
  go_wp2_with fail
  refine (full_two _).mono ?_
  rintro e w5 ⟨rfl, hb5⟩
  have HD5 := Lib.hid (HD4.out.byBelow hb5)
  have HW5 : Hid (Calls Try.prog 10 #[.pointer (some ⟨d, 0, none⟩), .int .i64 0, pageV (List.replicate 64 2)] w5 fun e w' => e = .returned (.int .i64 0) ∧ DiskAt w' d l m a3 ∧ Only [d, m] w5 w') := Lib.hid (by
    have := write_any HD5.out.disk 0 (List.replicate 64 2) HL2.out
    rw [a2_write] at this
    exact this)
  clear HD4 hb5
  generalize List.replicate 64 (2 : UInt8) = q2 at HW5 ⊢
  go_wp2_with fail
  refine HW5.out.mono ?_
  rintro e w6 ⟨rfl, hd6, ho6⟩
  have HD6 := Lib.hid (HD5.out.byOnly hd6 ho6 (by simp))
  clear HW5 HD5 hd6 ho6
  go_wp2_with fail
  have HK : Hid (KeepAt (w6.alloc (.cells #[.int .u8 3] 5)) (some ⟨w6.heap.size, 0, none⟩) 1 [3] [d, l, m]) := Lib.hid (keep_one w6 3 5 _ HD6.out.lts)
  have HD7 := Lib.hid (HD6.out.byAlloc (.cells #[.int .u8 3] 5))
  have HC : Hid (Calls Try.prog 18 #[.pointer (some ⟨d, 0, none⟩), .slice (some ⟨w6.heap.size, 0, none⟩) 1 1] (w6.alloc (.cells #[.int .u8 3] 5)) fun e w' => e = .returned (.tuple #[]) ∧ DiskAt w' d l m a4 ∧ Only [d, l, m] (w6.alloc (.cells #[.int .u8 3] 5)) w') := Lib.hid (crash_any HD7.out.disk _ 1 [3] HK.out)
  refine HC.out.mono ?_
  rintro e w8 ⟨rfl, hd8, ho8⟩
  have HD8 := Lib.hid (HD7.out.byOnly hd8 ho8 (by simp))
  have HR : Hid (Calls Try.prog 12 #[.pointer (some ⟨d, 0, none⟩), .int .i64 0] w8 fun e w' => e = .returned (.tuple #[pageV aP, .int .i64 0]) ∧ Below w8.heap.size w8 w') := Lib.hid (by
    have := read_any HD8.out.disk 0
    rw [a4_read] at this
    exact this)
  have HPL : Hid (aP.length = 64) := Lib.hid (Dk.readP_len HD8.out.disk.ok 0)
  clear HC HK HD7 HD6 hd8 ho8
  go_wp2_with fail
  refine HR.out.mono ?_
  rintro e w9 ⟨rfl, hb9⟩
  have HD9 := Lib.hid (HD8.out.byBelow hb9)
  have HA2 := Lib.hid aP_two
  have HA3 := Lib.hid aP_three
  clear HR HD8 hb9
  generalize aP = ap at HPL HA2 HA3 ⊢
  go_wp2_with ((with_reducible refine wpList_store_new rfl (.tmp 3) (.tmp 38) rfl rfl ?_ ?_ HPL.out ?_); (exact rfl); (exact rfl); intro W2 hP hB2 hz2; have z2 := hP.cell 2 (by omega); have z3 := hP.cell 3 (by omega); rw [HA2.out] at z2; rw [HA3.out] at z3)
  go_ret
  exact ⟨rfl, (HD9.out.byBelow hB2).below⟩
end Go.Proofs.Ytaiikpfgnamgiaa
