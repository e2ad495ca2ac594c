/-
  Proved: SpanMeta returns true for all rows of numbers: how many pages of numbers a file has is what the document says.
  Conditions: none beside the statement's own.
-/
import Derived.Test.YtjobaoecomdipaaSawake
import Derived.Test.YtjobaoecomdipaaSrmeta
namespace Go.Proofs.Ytjobaoecomdipaa.spanMeta
open Go.ChangeShapes Go.WideShapes Go.ChangeAt Go.RowKit

set_option maxRecDepth 100000 in
set_option maxHeartbeats 4000000 in
theorem walk_few (A : Option Addr) (n c : Nat) (xs : List Int) (w : World) (h : IntRow w A n xs) (hn : n ≤ 200) :
    Calls Try.prog 5 #[.slice A n c] w fun e w' => e = .returned (.bool true) ∧ Below w.heap.size w w' := by
  have S : Hid (IntRow w A n xs ∧ Below w.heap.size w w) := Lib.hid ⟨h, Below.refl _ _⟩
  have HM : Hid (∀ w, IntRow w A n xs → Calls Try.prog 13 #[.slice A n c] w fun e w' => e = .returned (.int .i64 (Sp.meta_ xs : Int)) ∧ Below w.heap.size w w') := Lib.hid (fun w h => meta_any A n c xs w h hn)
  have HR : Hid (∀ w, IntRow w A n xs → Calls Try.prog 14 #[.slice A n c] w fun e w' => e = .returned (.int .i64 (Sp.meta_ xs : Int)) ∧ Below w.heap.size w w') := Lib.hid (fun w h => rmeta_any A n c xs w h hn)
  generalize (Sp.meta_ xs : Int) = m at HM HR
  clear h
  go_enter Try.func5, Try.ntmps5
  go_wp2_with (first
    | (go_at_call 7; refine (awake_any _).mono ?_; rintro e w1 ⟨rfl, hb⟩; replace S := Lib.hid (⟨S.out.1.step hb, S.out.2.trans (hb.mono S.out.2.size)⟩ : IntRow w1 A n xs ∧ Below w.heap.size w w1); clear hb)
    | (go_at_call 13; (with_reducible refine (HM.out _ S.out.1).mono ?_); rintro e w2 ⟨rfl, hb⟩; replace S := Lib.hid (⟨S.out.1.step hb, S.out.2.trans (hb.mono S.out.2.size)⟩ : IntRow w2 A n xs ∧ Below w.heap.size w w2); clear hb)
    | (go_at_call 14; (with_reducible refine (HR.out _ S.out.1).mono ?_); rintro e w3 ⟨rfl, hb⟩; replace S := Lib.hid (⟨S.out.1.step hb, S.out.2.trans (hb.mono S.out.2.size)⟩ : IntRow w3 A n xs ∧ Below w.heap.size w w3); clear hb))
  go_ret
  exact ⟨rfl, S.out.2⟩
set_option maxRecDepth 100000 in
set_option maxHeartbeats 4000000 in
theorem walk_many (A : Option Addr) (n c : Nat) (w : World) (hm : n ≤ maxLen) (hn : 200 < n) :
    Calls Try.prog 5 #[.slice A n c] w fun e w' => e = .returned (.bool true) ∧ Below w.heap.size w w' := by
  unfold maxLen at hm
  go_enter Try.func5, Try.ntmps5
  go_wp2_with (go_at_call 7; refine (awake_any _).mono ?_; rintro e w1 ⟨rfl, hb⟩)
  go_ret
  exact ⟨rfl, hb⟩
theorem walk (A : Option Addr) (n c : Nat) (xs : List Int) (w : World) (h : IntRow w A n xs) :
    Calls Try.prog 5 #[.slice A n c] w fun e w' => e = .returned (.bool true) ∧ Below w.heap.size w w' := by
  by_cases hn : n ≤ 200
  · exact walk_few A n c xs w h hn
  · exact walk_many A n c w h.small (by omega)
set_option maxRecDepth 100000 in
theorem lifted (os : Os) (started : os.Started) (H : Type) (enc : TypeId × Value → H) :
    ReturnsInHanded {} Try.checked os 5 .any (Rows.spanMetaSpec.pre6 enc Try.prog Try.f5 Rows.spanMetaRow.domain false) (Rows.spanMetaSpec.post enc Try.prog Try.f5 false true false false) := by
  refine returnsInHanded_of_change (C := Try.checked) own started (by kernel_rfl) Try.func5
    (ChangeSpec.witness6 (enc := enc) (C := Try.checked) false ⟨#[], #[.slice none 0 0], []⟩ 8 (by kernel_rfl) (by kernel_rfl) (by kernel_rfl) (by kernel_rfl)) ?_
  intro W base args ds gs before hval0 hW hcnd _
  have hval : ∀ (j : Nat) t v, Try.f5.params[j]? = some t → args[j]? = some v → Value.okWide Try.prog W .any base t v := hval0
  have hW' := hW
  obtain ⟨p, q, hA0, hV, rfl, hfz, hnd⟩ := hW
  have hA : DataW.TrodAll enc Try.prog W 0 (fun _ => true) true Try.f5.params.toList args.toList ds p := hA0
  rw [Try.params5] at hA hval
  obtain ⟨v0, vs0, d0, ds0, p0, q0, hargs, rfl, rfl, h0, r0⟩ := trodAll_cons hA
  obtain ⟨rfl, rfl, rfl⟩ := trodAll_nil r0
  obtain rfl : args = #[v0] := by cases args; simp_all
  obtain ⟨rfl, rfl⟩ := trodVars_none hV
  have k0 := h0
  have lt0 : ∀ x ∈ p0, x.block < W.heap.size := by obtain ⟨m, hm⟩ := k0; exact DataW.trod_lt m _ _ _ hm
  obtain ⟨A0, n0, c0, xs0, rfl, w0⟩ := open_ints (hval 0 34 v0 rfl rfl) h0
  clear hA0 hval0
  refine (walk A0 n0 c0 xs0 W w0).mono fun e W' ⟨he, bel⟩ => ?_
  subst he
  exact ⟨_, rfl, _, _, _, [], _, [], hW', trodAll_mk1 (shut_bool Try.underlying4 _), (trodAll_cons_mk (Below.trod laidOut (by kernel_rfl) (of_decide_eq_true (by kernel_rfl)) k0 bel lt0) trodAll_mk0), rfl, bel.frame _, fun h => by cases h⟩
theorem over : Rows.spanMetaRow.holds Try.pinned (OpenSpec.ofChange Rows.spanMetaSpec) :=
  OpenClaim.holds_of_wide 5 Try.f5 rfl rfl rfl rfl rfl rfl rfl ⟨rfl, rfl, rfl, rfl, rfl⟩ rfl rfl rfl rfl rfl (by kernel_rfl) Try.func5 (by kernel_rfl)
    (of_decide_eq_true (by kernel_rfl)) (by unfold Func.isWrapper; first | (rw [if_pos (by decide +kernel)]; kernel_rfl) | (rw [if_neg (by decide +kernel)]; exact ⟨rfl, rfl⟩))
    (fun os started H enc _ => lifted os started H enc)

/-- THE STATEMENT -/
theorem proved : Rows.SpanMetaSaid := over
#print axioms proved
end Go.Proofs.Ytjobaoecomdipaa.spanMeta
