/-
  The walk of MapsNone.
-/
import Derived.Test.YtkomehplcacbcaaZopen
namespace Go.Proofs.Ytkomehplcacbcaa
open Go.RowKit Go.Maps

theorem setAt_nil (i : Int) (w : World) : Calls Try.prog 9 #[.slice none 0 0, .int .i64 i] w fun e w' => e = .returned (.pointer none) ∧ Below w.heap.size w w' := by
  by_cases h : i < 0
  · go_enter Try.func9, Try.ntmps9
    go_wp2
    refine bodyPost_ret (results_tmp rfl _ _ _) rfl ⟨rfl, Below.refl _ _⟩
  · have h2 : (0 : Int) ≤ i := by omega
    go_enter Try.func9, Try.ntmps9
    go_wp2
    refine bodyPost_ret (results_tmp rfl _ _ _) rfl ⟨rfl, Below.refl _ _⟩
theorem entries_nil (w : World) : Calls Try.prog 15 #[.slice none 0 0] w fun e w' => e = .returned (.int .i64 0) ∧ Below w.heap.size w w' := by
  go_enter Try.func15, Try.ntmps15
  go_wp2
  go_loopw [3, 5, 8] (fun s _ i wr => s = .int .i64 0 ∧ i = .int .i64 0 ∧ Hid (Below w.heap.size w wr)) (fun _ _ i _ => 0)
  case atStart => exact ⟨rfl, rfl, Lib.hid (Below.refl _ _)⟩
  case round =>
    obtain ⟨rfl, rfl, HB⟩ := hrel
    go_wp2
    go_ret
    exact ⟨rfl, HB.out⟩
theorem run_zeq (w : World) : (binOp .eql 39 zeroW zeroW).run Try.prog w = .ok (.bool true) w := by kernel_rfl
theorem run_zeg (x y : Operand) (w : World) : (eqGuard .eql 39 x y zeroW zeroW).run Try.prog w = .ok () w := by kernel_rfl
set_option maxRecDepth 100000 in
set_option maxHeartbeats 4000000 in
theorem none_walk (key a b c d : Int) (w : World) : Calls Try.prog 4 #[.int .i64 key, .agg #[.int .i64 a, .int .i64 b, .int .i64 c, .int .i64 d]] w fun e w' => e = .returned (.bool true) ∧ Below w.heap.size w w' := by
  have S0 : Hid (RowsS w [(w.heap.size, [.int .i64 a, .int .i64 b, .int .i64 c, .int .i64 d])] (w.alloc (.cells #[.int .i64 a, .int .i64 b, .int .i64 c, .int .i64 d] 39))) := Lib.hid ⟨fun x hx => by
    simp only [List.mem_singleton] at hx
    subst hx
    exact ⟨rowAt_new w [.int .i64 a, .int .i64 b, .int .i64 c, .int .i64 d] _, (show 0 < 4 by decide)⟩, (Below.refl _ _).alloc (Nat.le_refl _) _⟩
  have HE : ∀ w, (binOp .eql 39 (.agg #[.int .i64 0, .int .i64 0, .int .i64 0, .int .i64 0]) (.agg #[.int .i64 0, .int .i64 0, .int .i64 0, .int .i64 0])).run Try.prog w = .ok (.bool true) w := run_zeq
  have HG : ∀ x y w, (eqGuard .eql 39 x y (.agg #[.int .i64 0, .int .i64 0, .int .i64 0, .int .i64 0]) (.agg #[.int .i64 0, .int .i64 0, .int .i64 0, .int .i64 0])).run Try.prog w = .ok () w := run_zeg
  go_enter Try.func4, Try.ntmps4
  go_upto_region 1 with fail
  generalize w.alloc (.cells #[.int .i64 a, .int .i64 b, .int .i64 c, .int .i64 d] 39) = W1 at S0 ⊢
  go_upto_region 8 with (first
    | (go_at_call 6; refine (awake_any _).mono ?_; rintro e w1 ⟨rfl, hb⟩; have S := Lib.hid (S0.out.call hb); clear hb S0)
    | (go_at_call 17; refine (clear_nil _).mono ?_; rintro e w2 ⟨rfl, hb⟩; replace S := Lib.hid (S.out.call hb); clear hb)
    | (go_at_call 18; refine (get_nil _ _).mono ?_; rintro e w3 ⟨rfl, hb⟩; replace S := Lib.hid (S.out.call hb); clear hb)
    | ((with_reducible refine wpList_store_newrow valT (vs := [.int .i64 0, .int .i64 0, .int .i64 0, .int .i64 0]) rfl zero_one rfl (.tmp 6) (.tmp 19) rfl rfl ?_ ?_ ?_); (exact rfl); (exact rfl); intro W4 hP hb hz; have S1 := Lib.hid (S.out.add hb hP (by decide)); clear hP hb hz S; generalize w3.heap.size = A6 at S1 ⊢)
    | (go_at_call 19; refine (use_nil _ _).mono ?_; rintro e w5 ⟨rfl, hb⟩; replace S1 := Lib.hid (S1.out.call hb); clear hb)
    | ((with_reducible refine wpList_store_newrow valT (vs := [.int .i64 0, .int .i64 0, .int .i64 0, .int .i64 0]) rfl zero_one rfl (.tmp 8) (.tmp 25) rfl rfl ?_ ?_ ?_); (exact rfl); (exact rfl); intro W6 hP hb hz; have S2 := Lib.hid (S1.out.add hb hP (by decide)); clear hP hb hz S1; generalize w5.heap.size = A8 at S2 ⊢))
  go_wp2_with (first
    | (with_reducible refine wpList_load_row valT S2.out.tl.at0 rfl rfl (.tmp 6) rfl rfl ?_)
    | ((with_reducible refine wpList_loadg_row valT S2.out.at0 rfl (.tmp 8) rfl rfl ?_ ?_); (exact rfl))
    | ((with_reducible refine wpList_loadg_row valT S2.out.tl.tl.at0 rfl (.tmp 3) rfl rfl ?_ ?_); (exact rfl))
    | (go_at_call 10; refine (put_nil _ _ _ _ _ _).mono ?_; rintro e w7 ⟨rfl, hb⟩; replace S2 := Lib.hid (S2.out.call hb); clear hb)
    | (go_at_call 20; refine (word_nil _ _ _ _).mono ?_; rintro e w8 ⟨rfl, hb⟩; replace S2 := Lib.hid (S2.out.call hb); clear hb)
    | (go_at_call 21; refine (drop_nil _ _).mono ?_; rintro e w9 ⟨rfl, hb⟩; replace S2 := Lib.hid (S2.out.call hb); clear hb)
    | (go_at_call 14; refine (all_nil _).mono ?_; rintro e w10 ⟨rfl, hb⟩; replace S2 := Lib.hid (S2.out.call hb); clear hb)
    | (go_at_call 22; refine (len_nil _).mono ?_; rintro e w11 ⟨rfl, hb⟩; replace S2 := Lib.hid (S2.out.call hb); clear hb)
    | (go_at_call 9; refine (setAt_nil _ _).mono ?_; rintro e w12 ⟨rfl, hb⟩; replace S2 := Lib.hid (S2.out.call hb); clear hb)
    | (go_at_call 15; refine (entries_nil _).mono ?_; rintro e w13 ⟨rfl, hb⟩; replace S2 := Lib.hid (S2.out.call hb); clear hb))
  go_ret
  exact ⟨rfl, S2.out.below⟩
end Go.Proofs.Ytkomehplcacbcaa
