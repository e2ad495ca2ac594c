/-
  The walk of MapsMake: no spec at all.
-/
import Derived.Test.YtkomehplcacbcaaZdm
namespace Go.Proofs.Ytkomehplcacbcaa
open Go.RowKit Go.Maps

theorem entries_zero (A : Option Addr) (c : Nat) (w : World) : Calls Try.prog 15 #[.slice A 0 c] w fun e w' => e = .returned (.int .i64 0) ∧ Below w.heap.size w w' := by
  go_enter Try.func15, Try.ntmps15
  go_wp2
  go_loopw [3, 5, 8] (fun s _ i wr => s = .int .i64 0 ∧ i = .int .i64 0 ∧ Hid (Below w.heap.size w wr)) (fun _ _ i _ => 0)
  case atStart => exact ⟨rfl, rfl, Lib.hid (Below.refl _ _)⟩
  case round =>
    obtain ⟨rfl, rfl, HB⟩ := hrel
    go_wp2
    go_ret
    exact ⟨rfl, HB.out⟩
theorem clear_zero (A : Option Addr) (c : Nat) (w : World) : Calls Try.prog 16 #[.slice A 0 c] w fun e w' => e = .returned (.tuple #[]) ∧ Below w.heap.size w w' := by
  go_enter Try.func16, Try.ntmps16
  go_wp2
  go_loopw [3, 6] (fun _ i wr => i = .int .i64 0 ∧ Hid (Below w.heap.size w wr)) (fun _ i _ => 0)
  case atStart => exact ⟨rfl, Lib.hid (Below.refl _ _)⟩
  case round =>
    obtain ⟨rfl, HB⟩ := hrel
    go_wp2
    go_end0
    exact ⟨rfl, HB.out⟩
set_option maxRecDepth 100000 in
set_option maxHeartbeats 4000000 in
theorem mk_zero (A : Option Addr) (c : Nat) (xs : List (Int × Int)) (KA : Option Addr) (m kc : Nat) (ks : List Int) (w : World) (h : SpecsAt w A 0 xs) (hk : IntsAt w KA m ks) (hm : m ≤ 40) :
    Calls Try.prog 3 #[.slice A 0 c, .slice KA m kc] w fun e w' => e = .returned (.bool true) ∧ Below w.heap.size w w' := by
  have H0 := Lib.hid h
  have HK0 := Lib.hid hk
  have hx : xs = [] := List.eq_nil_of_length_eq_zero h.len
  subst hx
  have h2i : ¬ ((40 : Int) < (m : Int)) := by omega
  have HMK := Lib.hid (fun w h => make_any A 0 c w.heap.size [] w h rfl)
  clear h hk
  go_enter Try.func3, Try.ntmps3
  go_upto_region 7 with (first
    | (go_at_call 6; refine (awake_any _).mono ?_; rintro e w1 ⟨rfl, hb⟩; have B := Lib.hid hb; clear hb)
    | (go_at_call 7; refine (HMK.out _ (H0.out.step B.out)).mono ?_; intro e w2 hg; unfold MakeGive at hg; rw [if_pos ⟨by decide, rfl⟩] at hg; obtain ⟨v, bs, ms, rfl, hmk⟩ := hg; obtain ⟨A0, c0, rfl⟩ := owns_slice hmk.own; replace B := Lib.hid (B.out.trans (hmk.bel.mono B.out.size)); clear hmk))
  go_wp2_with fail
  go_loopw [7, 9, 38] (fun o _ i wr => i = .int .i64 0 ∧ o = .bool true ∧ Hid (Below w.heap.size w wr)) (fun _ _ i _ => 0)
  case atStart => exact ⟨rfl, rfl, B⟩
  case round =>
    clear B
    obtain ⟨rfl, rfl, B⟩ := hrel
    go_upto_region 17 with (first
      | (go_at_call 9; (with_reducible refine (at_out A0 0 c0 (-1) _ (Or.inl (by decide))).mono ?_); rintro e w5 ⟨rfl, rfl⟩)
      | (go_at_call 9; (with_reducible refine (at_out A0 0 c0 0 _ (Or.inr (Int.le_refl _))).mono ?_); rintro e w5 ⟨rfl, rfl⟩))
    go_wp2_with fail
    go_loopw [10, 12, 84] (fun l _ i wr => i = .int .i64 0 ∧ l = .slice none 0 0 ∧ Hid (Below w.heap.size w wr)) (fun _ _ i _ => 0)
    case atStart => exact ⟨rfl, rfl, B⟩
    case round =>
      clear B
      obtain ⟨rfl, rfl, B⟩ := hrel
      go_wp2_with fail
      go_loopw [13, 14, 15, 99] (fun _ _ _ i wr => i = .int .i64 0 ∧ Hid (Below w.heap.size w wr)) (fun _ _ _ i _ => 0)
      case atStart => exact ⟨rfl, B⟩
      case round =>
        clear B
        obtain ⟨rfl, B⟩ := hrel
        rename World => wo
        by_cases hm0 : 0 < m
        · obtain ⟨b, off, key, hA, hb, hx, hc⟩ := (HK0.out.step B.out).get 0 hm0
          subst hA
          have hm1 : (0 : Int) < (m : Int) := by omega
          rw [Nat.add_zero] at hc
          clear hb hx
          go_wp2_with fail
          go_loopw [16, 17, 137] (fun s _ i wr => s = .int .i64 0 ∧ i = .int .i64 0 ∧ Hid (Below w.heap.size w wr)) (fun _ _ i _ => 0)
          case atStart => exact ⟨rfl, rfl, B⟩
          case round =>
            clear B
            obtain ⟨rfl, rfl, B⟩ := hrel
            go_wp2_with (first
              | (go_at_call 15; refine (entries_zero _ _ _).mono ?_; rintro e w5 ⟨rfl, hb⟩; replace B := Lib.hid (B.out.trans (hb.mono B.out.size)); clear hb)
              | (go_at_call 16; refine (clear_zero _ _ _).mono ?_; rintro e w5 ⟨rfl, hb⟩; replace B := Lib.hid (B.out.trans (hb.mono B.out.size)); clear hb))
            go_ret
            exact ⟨rfl, B.out⟩
        · obtain rfl : m = 0 := by omega
          go_wp2_with fail
          go_loopw [16, 17, 137] (fun s _ i wr => s = .int .i64 0 ∧ i = .int .i64 0 ∧ Hid (Below w.heap.size w wr)) (fun _ _ i _ => 0)
          case atStart => exact ⟨rfl, rfl, B⟩
          case round =>
            clear B
            obtain ⟨rfl, rfl, B⟩ := hrel
            go_wp2_with (first
              | (go_at_call 15; refine (entries_zero _ _ _).mono ?_; rintro e w5 ⟨rfl, hb⟩; replace B := Lib.hid (B.out.trans (hb.mono B.out.size)); clear hb)
              | (go_at_call 16; refine (clear_zero _ _ _).mono ?_; rintro e w5 ⟨rfl, hb⟩; replace B := Lib.hid (B.out.trans (hb.mono B.out.size)); clear hb))
            go_ret
            exact ⟨rfl, B.out⟩
end Go.Proofs.Ytkomehplcacbcaa
