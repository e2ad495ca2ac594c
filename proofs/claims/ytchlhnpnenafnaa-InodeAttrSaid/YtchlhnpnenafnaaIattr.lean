/-
  Proved: InodeAttr returns true for all numbers and inodes: what is told of an inode is its own numbers.
  Conditions: none beside the statement's own.
-/
import Derived.Test.YtchlhnpnenafnaaIawake
namespace Go.Proofs.Ytchlhnpnenafnaa.inodeAttr
open Go.ChangeShapes Go.WideShapes Go.ChangeAt Go.RowKit
open Ii (Ino)

set_option maxRecDepth 100000 in
set_option maxHeartbeats 4000000 in
theorem walk (n : Int) (x : Ino) (w : World) :
    Calls Try.prog 5 #[.int .i64 n, inoV x] w fun e w' => e = .returned (.bool true) ∧ Below w.heap.size w w' := by
  have HA : Hid (∀ w, Calls Try.prog 14 #[.int .i64 n, .agg (inoL x).toArray] w fun e w' => e = .returned (attrV n x) ∧ Below w.heap.size w w') := Lib.hid (fun w => attr_any n x w)
  have hr0 := rowAt_new w (inoL x) 26
  have hb0 : Below w.heap.size w (w.alloc (.cells (inoL x).toArray 26)) := (Below.refl _ _).alloc (Nat.le_refl _) _
  have E1 : ∀ (a b : Operand) (w : World), (eqGuard .eql 44 a b (.agg (attrL n x).toArray) (.agg #[.int .i64 n, .int .i64 x.k, .int .i64 x.p, .int .i64 x.u, .int .i64 x.l, .int .i64 x.s])).run Try.prog w = .ok () w := fun a b w => run_eqGuard_attr w a b n n x x
  have E2 : ∀ (w : World), (binOp .eql 44 (.agg (attrL n x).toArray) (.agg #[.int .i64 n, .int .i64 x.k, .int .i64 x.p, .int .i64 x.u, .int .i64 x.l, .int .i64 x.s])).run Try.prog w = .ok (.bool true) w := fun w => run_eql_attr w n x
  unfold inoV
  go_enter Try.func5, Try.ntmps5
  go_wp2_with fail
  generalize hw : w.alloc _ = w0
  have R0 : Hid (RowAt w0 w.heap.size (inoL x) ∧ Below w.heap.size w w0) := Lib.hid (by rw [← hw]; exact ⟨hr0, hb0⟩)
  clear hw hr0 hb0
  refine (awake_any _).mono ?_
  rintro e w1 ⟨rfl, hb⟩
  have S : Hid (RowAt w1 w.heap.size (inoL x) ∧ Below w.heap.size w w1) := Lib.hid ⟨RowAt.step R0.out.1 hb, R0.out.2.trans (hb.mono R0.out.2.size)⟩
  clear hb R0
  go_wp2_with (first
    | (with_reducible refine wpList_load_row inoT S.out.1 rfl rfl (.tmp 3) rfl rfl ?_)
    | (go_at_call 14; (with_reducible refine (HA.out _).mono ?_); rintro e w2 ⟨rfl, hb⟩; replace S : Hid (RowAt w2 w.heap.size (inoL x) ∧ Below w.heap.size w w2) := Lib.hid ⟨RowAt.step S.out.1 hb, S.out.2.trans (hb.mono S.out.2.size)⟩; clear hb)
    | ((with_reducible refine wpList_store_newrow attrT (vs := attrL n x) rfl (attrL_one _ _) rfl (.tmp 5) (.tmp 10) rfl rfl ?_ ?_ ?_); (exact rfl); (exact rfl); intro W3 hP hb hz; have F := Lib.hid hP; replace S : Hid (RowAt W3 w.heap.size (inoL x) ∧ Below w.heap.size w W3) := Lib.hid ⟨RowAt.step S.out.1 hb, S.out.2.trans (hb.mono S.out.2.size)⟩; clear hP hb hz; generalize w2.heap.size = D at F ⊢; have c0 := S.out.1.cell 0 _ rfl; have c1 := S.out.1.cell 1 _ rfl; have c2 := S.out.1.cell 2 _ rfl; have c3 := S.out.1.cell 3 _ rfl; have c4 := S.out.1.cell 4 _ rfl)
    | (with_reducible refine wpList_load_row attrT F.out rfl rfl (.tmp 5) rfl rfl ?_))
  go_ret
  exact ⟨rfl, S.out.2⟩
set_option maxRecDepth 100000 in
theorem lifted (os : Os) (started : os.Started) (H : Type) (enc : TypeId × Value → H) :
    ReturnsInHanded {} Try.checked os 5 .any (Rows.inodeAttrSpec.pre6 enc Try.prog Try.f5 Rows.inodeAttrRow.domain false) (Rows.inodeAttrSpec.post enc Try.prog Try.f5 false true false false) := by
  refine returnsInHanded_of_change (C := Try.checked) own started (by kernel_rfl) Try.func5
    (ChangeSpec.witness6 (enc := enc) (C := Try.checked) false ⟨#[], #[.int .i64 0, .agg #[.int .i64 0, .int .i64 0, .int .i64 0, .int .i64 0, .int .i64 0, .int .i64 0, .int .i64 0, .int .i64 0, .int .i64 0, .int .i64 0, .int .i64 0]], []⟩ 8 (by kernel_rfl) (by kernel_rfl) (by kernel_rfl) (by kernel_rfl)) ?_
  intro W base args ds gs before hval0 hW hcnd _
  have hval : ∀ (j : Nat) t v, Try.f5.params[j]? = some t → args[j]? = some v → Value.okWide Try.prog W .any base t v := hval0
  have hW' := hW
  obtain ⟨p, q, hA0, hV, rfl, hfz, hnd⟩ := hW
  have hA : DataW.TrodAll enc Try.prog W 0 (fun _ => true) true Try.f5.params.toList args.toList ds p := hA0
  rw [Try.params5] at hA hval
  obtain ⟨v0, vs0, d0, ds0, p0, q0, hargs, rfl, rfl, h0, r0⟩ := trodAll_cons hA
  obtain ⟨v1, vs1, d1, ds1, p1, q1, rfl, rfl, rfl, h1, r1⟩ := trodAll_cons r0
  obtain ⟨rfl, rfl, rfl⟩ := trodAll_nil r1
  obtain rfl : args = #[v0, v1] := by cases args; simp_all
  obtain ⟨rfl, rfl⟩ := trodVars_none hV
  have k0 := h0
  have lt0 : ∀ x ∈ p0, x.block < W.heap.size := by obtain ⟨m, hm⟩ := k0; exact DataW.trod_lt m _ _ _ hm
  have k1 := h1
  have lt1 : ∀ x ∈ p1, x.block < W.heap.size := by obtain ⟨m, hm⟩ := k1; exact DataW.trod_lt m _ _ _ hm
  obtain ⟨n, rfl, ed0, ep0, w0⟩ := open_int Try.underlying3 (hval 0 3 v0 rfl rfl) h0
  obtain ⟨x, rfl⟩ := open_ino (hval 1 26 v1 rfl rfl) h1
  clear hA0 hval0
  refine (walk n x W).mono fun e W' ⟨he, bel⟩ => ?_
  subst he
  exact ⟨_, rfl, _, _, _, [], _, [], hW', trodAll_mk1 (shut_bool Try.underlying4 _), (trodAll_cons_mk (Below.trod laidOut (by kernel_rfl) (of_decide_eq_true (by kernel_rfl)) k0 bel lt0) (trodAll_cons_mk (Below.trod laidOut (by kernel_rfl) (of_decide_eq_true (by kernel_rfl)) k1 bel lt1) trodAll_mk0)), rfl, bel.frame _, fun h => by cases h⟩
theorem over : Rows.inodeAttrRow.holds Try.pinned (OpenSpec.ofChange Rows.inodeAttrSpec) :=
  OpenClaim.holds_of_wide 5 Try.f5 rfl rfl rfl rfl rfl rfl rfl ⟨rfl, rfl, rfl, rfl, rfl⟩ rfl rfl rfl rfl rfl (by kernel_rfl) Try.func5 (by kernel_rfl)
    (of_decide_eq_true (by kernel_rfl)) (by unfold Func.isWrapper; first | (rw [if_pos (by decide +kernel)]; kernel_rfl) | (rw [if_neg (by decide +kernel)]; exact ⟨rfl, rfl⟩))
    (fun os started H enc _ => lifted os started H enc)

/-- THE STATEMENT -/
theorem proved : Rows.InodeAttrSaid := over
#print axioms proved
end Go.Proofs.Ytchlhnpnenafnaa.inodeAttr
