/-
  The contract of hook.Words.
-/
import Derived.Test.YthccgfnoolbiiaaHpack
namespace Go.Proofs.Ythccgfnoolbiiaa
open Go.RowKit Go.Maps Pq

theorem conv_one (w : World) (x : UInt8) (T : TypeId) : (convert 36 9 (.slice (some ⟨w.heap.size, 0, none⟩) 1 1)).run Try.prog (w.alloc (.cells #[.int .u8 (x.toNat : Int)] T)) = .ok (.string ⟨#[x]⟩) (w.alloc (.cells #[.int .u8 (x.toNat : Int)] T)) := by
  have := run_convert_bytes_back (P := Try.prog) (w.alloc (.cells #[.int .u8 (x.toNat : Int)] T)) 36 9 5 ⟨w.heap.size, 0, none⟩ 1 [x] Try.underlying36 Try.underlying5 Try.underlying9 (fun j hj => by
    have : j = 0 := by simpa using hj
    subst this
    simp [go_sem, Addr.add_mid])
  exact this
theorem conv_len (w : World) (n : Nat) (h : n < 256) (T : TypeId) : (convert 36 9 (.slice (some ⟨w.heap.size, 0, none⟩) 1 1)).run Try.prog (w.alloc (.cells #[.int .u8 (n : Int)] T)) = .ok (.string ⟨#[UInt8.ofNat n]⟩) (w.alloc (.cells #[.int .u8 (n : Int)] T)) := by
  have := conv_one w (UInt8.ofNat n) T
  rw [UInt8.toNat_ofNat', Nat.mod_eq_of_lt h] at this
  exact this
set_option maxRecDepth 100000 in
set_option maxHeartbeats 1000000 in
theorem words_yes (s : ByteArray) (w : World) (h : s.size ≤ 13) :
    Calls Try.prog 17 #[.string s] w fun e w' => e = .returned (.tuple #[.int .i64 (Hk.packs (s.data.toList ++ [UInt8.ofNat s.size])).1, .int .i64 (Hk.packs (s.data.toList ++ [UInt8.ofNat s.size])).2]) ∧ Below w.heap.size w w' := by
  have hc := conv_len w s.size (by omega) 5
  have HP := Lib.hid (fun w => pack_any (s ++ ⟨#[UInt8.ofNat s.size]⟩) w)
  have e : (s ++ ⟨#[UInt8.ofNat s.size]⟩ : ByteArray).data.toList = s.data.toList ++ [UInt8.ofNat s.size] := by simp [ByteArray.data_append]
  rw [e] at HP
  clear e
  have HB : Hid (Below w.heap.size w (w.alloc (.cells #[.int .u8 (s.size : Int)] 5))) := Lib.hid ((Below.refl _ _).alloc (Nat.le_refl _) _)
  generalize Hk.packs (s.data.toList ++ [UInt8.ofNat s.size]) = r at HP ⊢
  generalize UInt8.ofNat s.size = x at hc HP
  go_enter Try.func17, Try.ntmps17
  go_wp2_with (go_at_call 19; (with_reducible refine (HP.out _).mono ?_); rintro e w' ⟨rfl, hb⟩)
  go_ret2
  exact ⟨rfl, HB.out.trans (hb.mono (by simp))⟩
set_option maxRecDepth 100000 in
set_option maxHeartbeats 1000000 in
theorem words_no (s : ByteArray) (w : World) (h : 13 < s.size) :
    Calls Try.prog 17 #[.string s] w fun e w' => e = .returned (.tuple #[.int .i64 0, .int .i64 0]) ∧ Below w.heap.size w w' := by
  go_enter Try.func17, Try.ntmps17
  go_wp2
  go_ret2
  exact ⟨rfl, Below.refl _ _⟩
theorem words_any (s : ByteArray) (w : World) : Calls Try.prog 17 #[.string s] w fun e w' => e = .returned (.tuple #[.int .i64 (Hk.words s.data.toList).1, .int .i64 (Hk.words s.data.toList).2]) ∧ Below w.heap.size w w' := by
  have hl : s.data.toList.length = s.size := by simp
  unfold Hk.words
  rw [hl]
  by_cases h : s.size ≤ 13
  · rw [if_pos h]; exact words_yes s w h
  · rw [if_neg h]; exact words_no s w (by omega)
end Go.Proofs.Ythccgfnoolbiiaa
