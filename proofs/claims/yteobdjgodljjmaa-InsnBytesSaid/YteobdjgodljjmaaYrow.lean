/-
  The project's own Right.
-/
import Derived.Test.YteobdjgodljjmaaYis
namespace Go.Proofs.Yteobdjgodljjmaa
open Go.RowKit Go.Maps

theorem all_len (xs : List Y.In) (h : Y.all xs = true) : 0 < xs.length ∧ xs.length ≤ 64 := Y.all_len h
theorem all_out (xs : List Y.In) (h : xs.length < 1 ∨ 64 < xs.length) : Y.all xs = false := by
  unfold Y.all
  rw [Bool.and_eq_false_iff]
  exact Or.inr (decide_eq_false (by omega))
set_option maxHeartbeats 1000000 in
theorem right_any (A : Option Addr) (n c : Nat) (xs : List Y.In) (w : World) (h : InsAt w A n xs) (hn : n ≤ maxLen) :
    Calls Try.prog 11 #[.slice A n c] w fun e w' => e = .returned (.bool (Y.all xs)) ∧ Below w.heap.size w w' := by
  have hn' : (n : Int) ≤ 9223372036854775807 := by unfold maxLen at hn; omega
  have S0 : Hid (InsS w A n xs w) := Lib.hid ⟨h, Below.refl _ _⟩
  have HL := Lib.hid h.len
  have HR : Hid (∀ x w, Calls Try.prog 24 #[.agg (inL x).toArray] w fun e w' => e = .returned (.bool (Y.right x)) ∧ Below w.heap.size w w') := Lib.hid (fun x w => isRight_any x w)
  have HO := Lib.hid (all_out xs)
  rw [HL.out] at HO
  clear h hn
  by_cases hr : n < 1 ∨ 64 < n
  · have HA := Lib.hid (HO.out hr)
    clear HO
    go_enter Try.func11, Try.ntmps11
    go_wp2
    all_goals first
      | omega
      | (go_ret; exact ⟨ret_bool HA.out.symm, S0.out.bel⟩)
  · have h1 : 1 ≤ n := by omega
    have h2 : n ≤ 64 := by omega
    clear hr HO
    go_enter Try.func11, Try.ntmps11
    go_wp2
    go_loopw [15] (fun i wr => ∃ k : Nat, k ≤ n ∧ i = .int .i64 (k : Int) ∧ Hid ((xs.take k).all Y.right = true) ∧ Hid (InsS w A n xs wr)) (fun i _ => n - (intOf i).toNat)
    case atStart => exact ⟨0, Nat.zero_le _, rfl, Lib.hid rfl, S0⟩
    case round =>
      clear S0
      obtain ⟨k, hk, rfl, HA, S⟩ := hrel
      rename World => wo
      by_cases hlt : k < n
      · obtain ⟨b, off, x, hA, hb, hx, hc⟩ := S.out.ins.get k hlt
        subst hA
        have HX := Lib.hid hx
        have HC := Lib.hid hc
        have hk0 : (0 : Int) ≤ (k : Int) := by omega
        have hk1 : (k : Int) < (n : Int) := by omega
        clear hx hc hb
        cases hr : Y.right x with
        | true =>
          have HR1 := Lib.hid (fun w => hr ▸ HR.out x w)
          have HM := Lib.hid (all_more xs k x HX.out hr HA.out)
          clear hr
          go_wp2_with (first
            | ((with_reducible refine wpList_load_at inT HC.out (inL_length _) rfl (.tmp 17) rfl ?_ ?_); (exact rfl))
            | ((with_reducible refine wpList_store_newrow inT (vs := inL x) (inL_length _) (inL_one _) rfl (.tmp 4) (.tmp 18) rfl rfl ?_ ?_ ?_); (exact rfl); (exact rfl); intro W4 hP hb hz; have R := Lib.hid hP; replace S := Lib.hid (S.out.call hb); clear hP hb hz; generalize wo.heap.size = G at R ⊢)
            | (with_reducible refine wpList_load_row inT R.out (inL_length _) rfl (.tmp 4) rfl rfl ?_)
            | (go_at_call 24; (with_reducible refine (HR1.out _).mono ?_); rintro e w2 ⟨rfl, hb2⟩; replace S := Lib.hid (S.out.call hb2); clear hb2))
          go_roundw
          case rel => exact ⟨k + 1, by omega, by go_num, HM, S⟩
          case measure => (simp [intOf] <;> omega)
        | false =>
          have HR1 := Lib.hid (fun w => hr ▸ HR.out x w)
          have HM := Lib.hid (all_no xs k x HX.out hr)
          clear hr
          go_wp2_with (first
            | ((with_reducible refine wpList_load_at inT HC.out (inL_length _) rfl (.tmp 17) rfl ?_ ?_); (exact rfl))
            | ((with_reducible refine wpList_store_newrow inT (vs := inL x) (inL_length _) (inL_one _) rfl (.tmp 4) (.tmp 18) rfl rfl ?_ ?_ ?_); (exact rfl); (exact rfl); intro W4 hP hb hz; have R := Lib.hid hP; replace S := Lib.hid (S.out.call hb); clear hP hb hz; generalize wo.heap.size = G at R ⊢)
            | (with_reducible refine wpList_load_row inT R.out (inL_length _) rfl (.tmp 4) rfl rfl ?_)
            | (go_at_call 24; (with_reducible refine (HR1.out _).mono ?_); rintro e w2 ⟨rfl, hb2⟩; replace S := Lib.hid (S.out.call hb2); clear hb2))
          go_ret
          exact ⟨ret_bool HM.out.symm, S.out.bel⟩
      · obtain rfl : k = n := by omega
        have e : xs.take k = xs := List.take_of_length_le (by rw [HL.out]; exact Nat.le_refl _)
        rw [e] at HA
        have HE : Hid (Y.all xs = decide (0 < k ∧ k ≤ 64)) := Lib.hid (by unfold Y.all; rw [HA.out, HL.out]; rfl)
        clear e hlt
        go_wp2
        go_ret
        exact ⟨ret_bool (by rw [HE.out]; exact (decide_eq_true (by omega)).symm), S.out.bel⟩
end Go.Proofs.Yteobdjgodljjmaa
