/-
  New, Get, Use, Len, Clear; and all of them of a map that isn't there.
-/
import Derived.Test.YtkomehplcacbcaaZput
namespace Go.Proofs.Ytkomehplcacbcaa
open Go.RowKit Go.Maps

theorem new_at (w : World) (hd : Value) (room base : Nat) (t : TypeId) (hb : base ≤ w.heap.size) : MpAt 62 hd (w.alloc (.cells #[hd, .int .i64 (room : Int), .slice none 0 0] t)) base w.heap.size (.slice none 0 0) room [] where
  row := rowAt_new w [hd, .int .i64 (room : Int), .slice none 0 0] t
  own := ⟨rfl, Or.inl ⟨rfl, rfl⟩⟩
  ne := by simp [Value.ownBlock]
  ge := hb
/-- a map that is made -/
def Made (lru : Bool) (room : Nat) (w : World) (e : Ending) (w' : World) : Prop := e = .returned (.tuple #[.pointer (some ⟨w.heap.size, 0, none⟩), .int .i64 0]) ∧ (∀ base, base ≤ w.heap.size → MpAt 62 (kd lru) w' base w.heap.size (.slice none 0 0) room []) ∧ Below w.heap.size w w'
theorem made (lru : Bool) (room : Nat) (w : World) (t : TypeId) : Made lru room w (.returned (.tuple #[.pointer (some ⟨w.heap.size, 0, none⟩), .int .i64 0])) (w.alloc (.cells #[kd lru, .int .i64 (room : Int), .slice none 0 0] t)) :=
  ⟨rfl, fun base hb => new_at w (kd lru) room base t hb, (Below.refl _ _).alloc (Nat.le_refl _) _⟩
theorem new_lru (room : Nat) (w : World) (h1 : 1 ≤ room) (h2 : room ≤ 8) : Calls Try.prog 23 #[.int .i64 2, .int .i64 (room : Int)] w (Made true room w) := by
  have a1 : ¬ ((room : Int) < 1) := by omega
  have a2 : ¬ ((8 : Int) < (room : Int)) := by omega
  have HM := Lib.hid (made true room w 64)
  clear h1 h2
  go_enter Try.func23, Try.ntmps23
  go_wp2
  go_ret2
  exact HM.out
theorem new_hash (room : Nat) (w : World) (h1 : 1 ≤ room) (h2 : room ≤ 8) : Calls Try.prog 23 #[.int .i64 1, .int .i64 (room : Int)] w (Made false room w) := by
  have a1 : ¬ ((room : Int) < 1) := by omega
  have a2 : ¬ ((8 : Int) < (room : Int)) := by omega
  have HM := Lib.hid (made false room w 64)
  clear h1 h2
  go_enter Try.func23, Try.ntmps23
  go_wp2
  go_ret2
  exact HM.out
theorem new_no (kind room : Int) (w : World) (h : ¬ ((kind = 1 ∨ kind = 2) ∧ 1 ≤ room ∧ room ≤ 8)) : Calls Try.prog 23 #[.int .i64 kind, .int .i64 room] w fun e w' => e = .returned (.tuple #[.pointer none, .int .i64 22]) ∧ Below w.heap.size w w' := by
  by_cases h1 : kind = 1
  · subst h1
    by_cases hr : room < 1
    · clear h
      go_enter Try.func23, Try.ntmps23
      go_wp2
      go_ret2
      exact ⟨rfl, Below.refl _ _⟩
    · have hr2 : 8 < room := by omega
      clear h
      go_enter Try.func23, Try.ntmps23
      go_wp2
      go_ret2
      exact ⟨rfl, Below.refl _ _⟩
  · by_cases h2 : kind = 2
    · subst h2
      by_cases hr : room < 1
      · clear h
        go_enter Try.func23, Try.ntmps23
        go_wp2
        go_ret2
        exact ⟨rfl, Below.refl _ _⟩
      · have hr2 : 8 < room := by omega
        clear h
        go_enter Try.func23, Try.ntmps23
        go_wp2
        go_ret2
        exact ⟨rfl, Below.refl _ _⟩
    · have g1 : (kind != 1) = true := by simpa using h1
      have g2 : (kind != 2) = true := by simpa using h2
      clear h
      go_enter Try.func23, Try.ntmps23
      go_wp2
      go_ret2
      exact ⟨rfl, Below.refl _ _⟩
/-! ### nobody -/
def zeroW : Value := .agg #[.int .i64 0, .int .i64 0, .int .i64 0, .int .i64 0]
theorem zero_row (w : World) (t : TypeId) : RowAt (w.alloc (.cells #[.int .i64 0, .int .i64 0, .int .i64 0, .int .i64 0] t)) w.heap.size [.int .i64 0, .int .i64 0, .int .i64 0, .int .i64 0] := rowAt_new w [.int .i64 0, .int .i64 0, .int .i64 0, .int .i64 0] t
theorem zero_one : ∀ v ∈ [Value.int .i64 0, .int .i64 0, .int .i64 0, .int .i64 0], v.oneCell' = true := by
  intro v hv
  simp only [List.mem_cons, List.not_mem_nil, or_false] at hv
  rcases hv with rfl | rfl | rfl | rfl <;> rfl
theorem put_nil (key a b c d : Int) (w : World) : Calls Try.prog 10 #[.pointer none, .int .i64 key, .agg #[.int .i64 a, .int .i64 b, .int .i64 c, .int .i64 d]] w fun e w' => e = .returned (.int .i64 22) ∧ Below w.heap.size w w' := by
  go_enter Try.func10, Try.ntmps10
  go_wp2
  refine bodyPost_ret (results_tmp rfl _ _ _) rfl ⟨rfl, (Below.refl _ _).alloc (Nat.le_refl _) _⟩
theorem word_nil (key i n : Int) (w : World) : Calls Try.prog 20 #[.pointer none, .int .i64 key, .int .i64 i, .int .i64 n] w fun e w' => e = .returned (.int .i64 22) ∧ Below w.heap.size w w' := by
  go_enter Try.func20, Try.ntmps20
  go_wp2
  refine bodyPost_ret (results_tmp rfl _ _ _) rfl ⟨rfl, Below.refl _ _⟩
theorem drop_nil (key : Int) (w : World) : Calls Try.prog 21 #[.pointer none, .int .i64 key] w fun e w' => e = .returned (.int .i64 2) ∧ Below w.heap.size w w' := by
  have HF := Lib.hid (fun w => find_nil key w)
  go_enter Try.func21, Try.ntmps21
  go_wp2_with (go_at_call 24; refine (HF.out _).mono ?_; rintro e w2 ⟨rfl, hb⟩; have HB := Lib.hid hb; clear hb)
  refine bodyPost_ret (results_tmp rfl _ _ _) rfl ⟨rfl, HB.out⟩
theorem all_nil (w : World) : Calls Try.prog 14 #[.pointer none] w fun e w' => e = .returned (.slice none 0 0) ∧ Below w.heap.size w w' := by
  go_enter Try.func14, Try.ntmps14
  go_wp2
  refine bodyPost_ret (results_tmp rfl _ _ _) rfl ⟨rfl, Below.refl _ _⟩
theorem len_nil (w : World) : Calls Try.prog 22 #[.pointer none] w fun e w' => e = .returned (.int .i64 0) ∧ Below w.heap.size w w' := by
  go_enter Try.func22, Try.ntmps22
  go_wp2
  refine bodyPost_ret (results_tmp rfl _ _ _) rfl ⟨rfl, Below.refl _ _⟩
theorem clear_nil (w : World) : Calls Try.prog 17 #[.pointer none] w fun e w' => e = .returned (.tuple #[]) ∧ Below w.heap.size w w' := by
  go_enter Try.func17, Try.ntmps17
  go_wp2
  go_end0
  exact ⟨rfl, Below.refl _ _⟩
set_option maxHeartbeats 1000000 in
theorem get_nil (key : Int) (w : World) : Calls Try.prog 18 #[.pointer none, .int .i64 key] w fun e w' => e = .returned (.tuple #[zeroW, .bool false]) ∧ Below w.heap.size w w' := by
  have HF := Lib.hid (fun w => find_nil key w)
  have HB0 : Hid (Below w.heap.size w (w.alloc (.cells #[.int .i64 0, .int .i64 0, .int .i64 0, .int .i64 0] 39))) := Lib.hid ((Below.refl _ _).alloc (Nat.le_refl _) _)
  have R0 := Lib.hid (zero_row w 39)
  go_enter Try.func18, Try.ntmps18
  go_upto_region 1 with fail
  generalize w.alloc (.cells #[.int .i64 0, .int .i64 0, .int .i64 0, .int .i64 0] 39) = W1 at HB0 R0 ⊢
  go_wp2_with (first
    | (go_at_call 24; refine (HF.out _).mono ?_; rintro e w2 ⟨rfl, hb⟩; have R := Lib.hid (R0.out.step hb); have HB := Lib.hid (HB0.out.trans (hb.mono HB0.out.size)); clear hb)
    | ((with_reducible refine wpList_store_row valT R.out rfl (vs := [.int .i64 0, .int .i64 0, .int .i64 0, .int .i64 0]) rfl zero_one rfl (.tmp 4) (.tmp 12) rfl ?_ ?_ ?_); (exact rfl); (exact rfl)))
  refine bodyPost_ret (results_row2 valT _ 4 5 rfl _ (R.out.put _ rfl) rfl rfl rfl) rfl ⟨rfl, below_setCells _ (Nat.le_refl _) _ _ _ HB.out⟩
set_option maxHeartbeats 1000000 in
theorem use_nil (key : Int) (w : World) : Calls Try.prog 19 #[.pointer none, .int .i64 key] w fun e w' => e = .returned (.tuple #[zeroW, .bool false]) ∧ Below w.heap.size w w' := by
  have HF := Lib.hid (fun w => find_nil key w)
  have HB0 : Hid (Below w.heap.size w (w.alloc (.cells #[.int .i64 0, .int .i64 0, .int .i64 0, .int .i64 0] 39))) := Lib.hid ((Below.refl _ _).alloc (Nat.le_refl _) _)
  have R0 := Lib.hid (zero_row w 39)
  go_enter Try.func19, Try.ntmps19
  go_upto_region 1 with fail
  generalize w.alloc (.cells #[.int .i64 0, .int .i64 0, .int .i64 0, .int .i64 0] 39) = W1 at HB0 R0 ⊢
  go_wp2_with (first
    | (go_at_call 24; refine (HF.out _).mono ?_; rintro e w2 ⟨rfl, hb⟩; have R := Lib.hid (R0.out.step hb); have HB := Lib.hid (HB0.out.trans (hb.mono HB0.out.size)); clear hb)
    | ((with_reducible refine wpList_store_row valT R.out rfl (vs := [.int .i64 0, .int .i64 0, .int .i64 0, .int .i64 0]) rfl zero_one rfl (.tmp 4) (.tmp 13) rfl ?_ ?_ ?_); (exact rfl); (exact rfl)))
  refine bodyPost_ret (results_row2 valT _ 4 5 rfl _ (R.out.put _ rfl) rfl rfl rfl) rfl ⟨rfl, below_setCells _ (Nat.le_refl _) _ _ _ HB.out⟩
end Go.Proofs.Ytkomehplcacbcaa
