/-
  Proved: BitsAre returns true for every pages, every place and every bit: a bit is, and is set, as the document says; the pages that were handed in stay.
  Conditions: none beside the statement's own.
-/
import Derived.Test.YtjjejdjhlnlhiaaBawake
import Derived.Test.YtjjejdjhlnlhiaaBrefs
import Derived.Test.YtjjejdjhlnlhiaaBsame
import Derived.ShutString
namespace Go.Proofs.Ytjjejdjhlnlhiaa.bitsAre
open Go.ChangeShapes Go.WideShapes Go.ChangeAt Go.RowKit

set_option maxRecDepth 100000 in
set_option maxHeartbeats 1000000 in
theorem walk_many (A : Option Addr) (n c : Nat) (i : Int) (on1 : Bool) (w : World) (hm : n ≤ maxLen) (hn : 4 < n) :
    Calls Try.prog 3 #[.slice A n c, .int .i64 i, .bool on1] w fun e w' => e = .returned (.bool true) ∧ Below w.heap.size w w' := by
  unfold maxLen at hm
  go_enter Try.func3, Try.ntmps3
  go_wp2_with fail
  refine (awake_any w).mono ?_
  rintro e w1 ⟨rfl, hb⟩
  go_wp2_with fail
  go_ret
  exact ⟨rfl, hb⟩
set_option maxRecDepth 100000 in
set_option maxHeartbeats 2000000 in
theorem walk_some (ad : Addr) (n c : Nat) (bs : List UInt8) (i : Int) (on1 : Bool) (w : World) (h : Row w (some ad) n bs) (hn : n ≤ 4) (hm : i ≤ 9223372036854775807) :
    Calls Try.prog 3 #[.slice (some ad) n c, .int .i64 i, .bool on1] w fun e w' => e = .returned (.bool true) ∧ Below w.heap.size w w' := by
  have HR := Lib.hid h; clear h
  have hn' : n ≤ 1000 := by omega
  have hbb : (Bt.getB bs i == Bt.getB bs i) = true := by simp
  go_enter Try.func3, Try.ntmps3
  go_wp2_with fail
  refine (awake_any w).mono ?_
  rintro e w1 ⟨rfl, hb1⟩
  have L1 := Lib.hid (HR.out.step hb1)
  have B1 := Lib.hid hb1; clear hb1
  go_wp2_with (first
    | (at_builtin; (with_reducible refine wpList_copy (c := c) L1.out hn' (Option.some_ne_none ad) ?_ (.tmp 14) (.tmp 15) ?_ ?_ ?_ ?_); (exact rfl); (exact rfl); (exact rfl); (exact rfl); intro v w2 ho hb2; obtain ⟨A2, c2, rfl, hr2, _⟩ := OwnB.form ho; have N2 := Lib.hid ho.nul; have L2 := Lib.hid (L1.out.step hb2); have W2 := Lib.hid hr2; have B2 := Lib.hid (B1.out.trans (hb2.mono B1.out.size)); clear L1 B1 ho hb2 hr2)
    | (go_at_call 7; refine (set_any _ _ _ _ _ _ _ L2.out hn').mono ?_; rintro e w3 ⟨v, rfl, ho, hb3⟩; obtain ⟨A3, c3, rfl, hr3, _⟩ := OwnB.form ho; have L3 := Lib.hid (L2.out.step hb3); have W3 := Lib.hid (W2.out.step hb3); have G3 := Lib.hid hr3; have B3 := Lib.hid (B2.out.trans (hb3.mono B2.out.size)); clear L2 W2 B2 ho hb3 hr3)
    | (go_at_call 8; refine (get_any _ _ _ _ _ _ L3.out hn').mono ?_; rintro e w4 ⟨rfl, j, rfl⟩; have L4 := Lib.hid (L3.out.drewN j); have W4 := Lib.hid (W3.out.drewN j); have G4 := Lib.hid (G3.out.drewN j); have B4 := Lib.hid (B3.out.trans (below_drewN _ _ j)); clear L3 W3 G3 B3)
    | (go_at_call 9; refine (refget_any _ _ _ _ _ _ W4.out hn' hm).mono ?_; rintro e w5 ⟨rfl, rfl⟩)
    | (go_at_call 11; refine (refset_any _ _ _ _ _ _ _ W4.out N2.out hn' hm).mono ?_; rintro e w6 ⟨v, rfl, ho, hb6⟩; obtain ⟨A6, c6, rfl, hr6, _⟩ := OwnB.form ho; have L6 := Lib.hid (L4.out.step hb6); have W6 := Lib.hid (W4.out.step hb6); have G6 := Lib.hid (G4.out.step hb6); have R6 := Lib.hid hr6; have B6 := Lib.hid (B4.out.trans (hb6.mono B4.out.size)); clear L4 W4 G4 B4 ho hb6 hr6)
    | (go_at_call 10; refine (same_any _ _ _ _ _ _ _ G6.out R6.out hn').mono ?_; rintro e w7 ⟨rfl, k, rfl⟩; have L7 := Lib.hid (L6.out.drewN k); have W7 := Lib.hid (W6.out.drewN k); have B7 := Lib.hid (B6.out.trans (below_drewN _ _ k)); clear L6 W6 G6 R6 B6)
    | (go_at_call 10; refine (same_any _ _ _ _ _ _ _ L7.out W7.out hn').mono ?_; rintro e w8 ⟨rfl, k2, rfl⟩))
  go_ret
  exact ⟨rfl, B7.out.trans ⟨rfl, rfl, rfl, Nat.le_refl _, fun _ _ => rfl⟩⟩
set_option maxRecDepth 100000 in
set_option maxHeartbeats 2000000 in
theorem walk_none (i : Int) (on1 : Bool) (w : World) (hm : i ≤ 9223372036854775807) :
    Calls Try.prog 3 #[.slice none 0 0, .int .i64 i, .bool on1] w fun e w' => e = .returned (.bool true) ∧ Below w.heap.size w w' := by
  have HR : Hid (Row w none 0 []) := Lib.hid ⟨rfl, Nat.zero_le _, fun _ => rfl, fun h => by omega⟩
  have hn' : 0 ≤ 1000 := by omega
  have hbb : (Bt.getB [] i == Bt.getB [] i) = true := by simp
  go_enter Try.func3, Try.ntmps3
  go_wp2_with fail
  refine (awake_any w).mono ?_
  rintro e w1 ⟨rfl, hb1⟩
  have L1 := Lib.hid (HR.out.step hb1)
  have B1 := Lib.hid hb1; clear hb1
  go_wp2_with (first
    | (at_builtin; (with_reducible refine wpList_copy_none ?_ (.tmp 14) (.tmp 15) ?_ ?_ ?_ ?_); (exact rfl); (exact rfl); (exact rfl); (exact rfl); intro v w2 ho hb2; obtain ⟨A2, c2, rfl, hr2, _⟩ := OwnB.form ho; have N2 := Lib.hid ho.nul; have L2 := Lib.hid (L1.out.step hb2); have W2 := Lib.hid hr2; have B2 := Lib.hid (B1.out.trans (hb2.mono B1.out.size)); clear L1 B1 ho hb2 hr2)
    | (go_at_call 7; refine (set_any _ _ _ _ _ _ _ L2.out hn').mono ?_; rintro e w3 ⟨v, rfl, ho, hb3⟩; obtain ⟨A3, c3, rfl, hr3, _⟩ := OwnB.form ho; have L3 := Lib.hid (L2.out.step hb3); have W3 := Lib.hid (W2.out.step hb3); have G3 := Lib.hid hr3; have B3 := Lib.hid (B2.out.trans (hb3.mono B2.out.size)); clear L2 W2 B2 ho hb3 hr3)
    | (go_at_call 8; refine (get_any _ _ _ _ _ _ L3.out hn').mono ?_; rintro e w4 ⟨rfl, j, rfl⟩; have L4 := Lib.hid (L3.out.drewN j); have W4 := Lib.hid (W3.out.drewN j); have G4 := Lib.hid (G3.out.drewN j); have B4 := Lib.hid (B3.out.trans (below_drewN _ _ j)); clear L3 W3 G3 B3)
    | (go_at_call 9; refine (refget_any _ _ _ _ _ _ W4.out hn' hm).mono ?_; rintro e w5 ⟨rfl, rfl⟩)
    | (go_at_call 11; refine (refset_any _ _ _ _ _ _ _ W4.out N2.out hn' hm).mono ?_; rintro e w6 ⟨v, rfl, ho, hb6⟩; obtain ⟨A6, c6, rfl, hr6, _⟩ := OwnB.form ho; have L6 := Lib.hid (L4.out.step hb6); have W6 := Lib.hid (W4.out.step hb6); have G6 := Lib.hid (G4.out.step hb6); have R6 := Lib.hid hr6; have B6 := Lib.hid (B4.out.trans (hb6.mono B4.out.size)); clear L4 W4 G4 B4 ho hb6 hr6)
    | (go_at_call 10; refine (same_any _ _ _ _ _ _ _ G6.out R6.out hn').mono ?_; rintro e w7 ⟨rfl, k, rfl⟩; have L7 := Lib.hid (L6.out.drewN k); have W7 := Lib.hid (W6.out.drewN k); have B7 := Lib.hid (B6.out.trans (below_drewN _ _ k)); clear L6 W6 G6 R6 B6)
    | (go_at_call 10; refine (same_any _ _ _ _ _ _ _ L7.out W7.out hn').mono ?_; rintro e w8 ⟨rfl, k2, rfl⟩))
  go_ret
  exact ⟨rfl, B7.out.trans ⟨rfl, rfl, rfl, Nat.le_refl _, fun _ _ => rfl⟩⟩
theorem walk (A : Option Addr) (n c : Nat) (bs : List UInt8) (i : Int) (on1 : Bool) (w : World) (h : Row w A n bs) (hA : A = none → c = 0) (hm : i ≤ 9223372036854775807) :
    Calls Try.prog 3 #[.slice A n c, .int .i64 i, .bool on1] w fun e w' => e = .returned (.bool true) ∧ Below w.heap.size w w' := by
  by_cases hn : n ≤ 4
  · cases A with
    | none =>
      have h0 := h.nul rfl
      have hc := hA rfl
      subst h0 hc
      exact walk_none i on1 w hm
    | some ad => exact walk_some ad n c bs i on1 w h hn hm
  · exact walk_many A n c i on1 w h.small (by omega)
theorem own : ownKnob Try.prog.godebug = none := by kernel_rfl
theorem laidOut : laidOutB Try.prog = true := by kernel_rfl
set_option maxRecDepth 100000 in
theorem lifted (os : Os) (started : os.Started) (H : Type) (enc : TypeId × Value → H) :
    ReturnsInHanded {} Try.checked os 3 .any (Rows.bitsAreSpec.pre6 enc Try.prog Try.f3 Rows.bitsAreRow.domain false) (Rows.bitsAreSpec.post enc Try.prog Try.f3 false true false false) := by
  refine returnsInHanded_of_change (C := Try.checked) own started (by kernel_rfl) Try.func3
    (ChangeSpec.witness6 (enc := enc) (C := Try.checked) false ⟨#[], #[.slice none 0 0, .int .i64 0, .bool false], []⟩ 8 (by kernel_rfl) (by kernel_rfl) (by kernel_rfl) (by kernel_rfl)) ?_
  intro W base args ds gs before hval0 hW hcnd _
  have hval : ∀ (j : Nat) t v, Try.f3.params[j]? = some t → args[j]? = some v → Value.okWide Try.prog W .any base t v := hval0
  have hW' := hW
  obtain ⟨p, q, hA0, hV, rfl, hfz, hnd⟩ := hW
  have hA : DataW.TrodAll enc Try.prog W 0 (fun _ => true) true Try.f3.params.toList args.toList ds p := hA0
  rw [Try.params3] at hA hval
  obtain ⟨v0, vs0, d0, ds0, p0, q0, hargs, rfl, rfl, h0, r0⟩ := trodAll_cons hA
  obtain ⟨v1, vs1, d1, ds1, p1, q1, rfl, rfl, rfl, h1, r1⟩ := trodAll_cons r0
  obtain ⟨v2, vs2, d2, ds2, p2, q2, rfl, rfl, rfl, h2, r2⟩ := trodAll_cons r1
  obtain ⟨rfl, rfl, rfl⟩ := trodAll_nil r2
  obtain rfl : args = #[v0, v1, v2] := by cases args; simp_all
  obtain ⟨rfl, rfl⟩ := trodVars_none hV
  have k0 := h0
  have lt0 : ∀ x ∈ p0, x.block < W.heap.size := by obtain ⟨m, hm⟩ := k0; exact DataW.trod_lt m _ _ _ hm
  have k1 := h1
  have lt1 : ∀ x ∈ p1, x.block < W.heap.size := by obtain ⟨m, hm⟩ := k1; exact DataW.trod_lt m _ _ _ hm
  have k2 := h2
  have lt2 : ∀ x ∈ p2, x.block < W.heap.size := by obtain ⟨m, hm⟩ := k2; exact DataW.trod_lt m _ _ _ hm
  obtain ⟨A0, n0, c0, bs0, rfl, w0, hA1⟩ := open_pages (hval 0 22 v0 rfl rfl) h0
  obtain ⟨x1, rfl, ed1, ep1, w1⟩ := open_int Try.underlying3 (hval 1 3 v1 rfl rfl) h1
  obtain ⟨x2, rfl, ed2, ep2⟩ := open_bool Try.underlying4 (hval 2 4 v2 rfl rfl) h2
  have hx1 := bounds_i64 w1
  clear hA0 hval0
  refine (walk A0 n0 c0 bs0 x1 x2 W w0 hA1 hx1.2).mono fun e W' ⟨he, bel⟩ => ?_
  subst he
  exact ⟨_, rfl, _, _, _, [], _, [], hW', trodAll_mk1 (shut_bool Try.underlying4 _), (trodAll_cons_mk (Below.trod laidOut (by kernel_rfl) (of_decide_eq_true (by kernel_rfl)) k0 bel lt0) (trodAll_cons_mk (Below.trod laidOut (by kernel_rfl) (of_decide_eq_true (by kernel_rfl)) k1 bel lt1) (trodAll_cons_mk (Below.trod laidOut (by kernel_rfl) (of_decide_eq_true (by kernel_rfl)) k2 bel lt2) trodAll_mk0))), rfl, bel.frame _, fun h => by cases h⟩
theorem over : Rows.bitsAreRow.holds Try.pinned (OpenSpec.ofChange Rows.bitsAreSpec) :=
  OpenClaim.holds_of_wide 3 Try.f3 rfl rfl rfl rfl rfl rfl rfl ⟨rfl, rfl, rfl, rfl, rfl⟩ rfl rfl rfl rfl rfl (by kernel_rfl) Try.func3 (by kernel_rfl)
    (of_decide_eq_true (by kernel_rfl)) (by unfold Func.isWrapper; first | (rw [if_pos (by decide +kernel)]; kernel_rfl) | (rw [if_neg (by decide +kernel)]; exact ⟨rfl, rfl⟩))
    (fun os started H enc _ => lifted os started H enc)

/-- THE STATEMENT -/
theorem proved : Rows.BitsAreSaid := over
#print axioms proved
end Go.Proofs.Ytjjejdjhlnlhiaa.bitsAre
