/-
  Proved: SlotNames returns true for all entries: what is wrong with a name, and whether an entry is right, is what the document says.
  Conditions: none beside the statement's own.
-/
import Derived.Test.YtejedkdlehgnpaaNopen
namespace Go.Proofs.Ytejedkdlehgnpaa.slotNames
open Go.ChangeShapes Go.WideShapes Go.ChangeAt Go.RowKit

set_option maxRecDepth 100000 in
set_option maxHeartbeats 4000000 in
theorem walk (n : Int) (s : ByteArray) (w : World) (hm : s.size ≤ maxLen) :
    Calls Try.prog 3 #[entV n s] w fun e w' => e = .returned (.bool true) ∧ Below w.heap.size w w' := by
  have HC := Lib.hid (fun w => check_any s w hm)
  have HD := Lib.hid (fun w => refCheck_any s w hm)
  have HR := Lib.hid (fun w => right_any n s w hm)
  have HQ := Lib.hid (fun w => refRight_any n s w hm)
  generalize Nm.chk s.data.toList = c at HC HD
  generalize Nm.rightB n s.data.toList = r at HR HQ
  have S0 : Hid (RowsS w [(w.heap.size, entL n s)] (w.alloc (.cells (entL n s).toArray 23))) := Lib.hid (RowsS.add ⟨fun x hx => (by cases hx), Below.refl _ _⟩ ((Below.refl _ _).alloc (Nat.le_refl _) _) (rowAt_new w (entL n s) _) (Nat.succ_pos 1))
  change Hid (RowsS w _ (w.alloc (.cells #[.int .i64 n, .string s] 23))) at S0
  unfold entV
  go_enter Try.func3, Try.ntmps3
  go_wp2_with fail
  refine (awake_any _).mono ?_
  rintro e w1 ⟨rfl, hb⟩
  have S := Lib.hid (S0.out.call hb)
  clear hb S0
  unfold maxLen at hm
  go_wp2_with fail
  by_cases hf : 300 < s.size
  · have hI : decide ((300 : Int) < (s.size : Int)) = true := decide_eq_true (by omega)
    refine wq_region (C := RowsS w [(w.heap.size, entL n s)]) (by kernel_rfl) S.out.drew ?_
    refine wq_take (.pointer (some ⟨w.heap.size, 1, none⟩)) (by kernel_rfl) ?_ ?_
    · (intro _ _; go_simp) <;> rfl
    (try simp only [Act.put, List.setIfInBounds_toArray, List.set_cons_zero, List.set_cons_succ])
    refine wq_take (.string s) (by kernel_rfl) ?_ ?_
    · (intro _ hC; have hc := hC.at0.cell 1 _ rfl; go_simp)
    (try simp only [Act.put, List.setIfInBounds_toArray, List.set_cons_zero, List.set_cons_succ])
    refine wq_take (.int .i64 (s.size : Int)) (by kernel_rfl) ?_ ?_
    · (intro _ _; go_simp)
    (try simp only [Act.put, List.setIfInBounds_toArray, List.set_cons_zero, List.set_cons_succ])
    refine wq_take (.bool true) (by kernel_rfl) ?_ ?_
    · (intro _ _; go_simp)
    (try simp only [Act.put, List.setIfInBounds_toArray, List.set_cons_zero, List.set_cons_succ])
    refine wq_take (.bool true) (by kernel_rfl) ?_ ?_
    · (intro _ _; go_simp)
    (try simp only [Act.put, List.setIfInBounds_toArray, List.set_cons_zero, List.set_cons_succ])
    refine wq_pass (by kernel_rfl) ?_
    (try simp only [Act.put, List.setIfInBounds_toArray, List.set_cons_zero, List.set_cons_succ])
    refine wq_pass (by kernel_rfl) ?_
    (try simp only [Act.put, List.setIfInBounds_toArray, List.set_cons_zero, List.set_cons_succ])
    refine wq_pass (by kernel_rfl) ?_
    (try simp only [Act.put, List.setIfInBounds_toArray, List.set_cons_zero, List.set_cons_succ])
    refine wq_pass (by kernel_rfl) ?_
    (try simp only [Act.put, List.setIfInBounds_toArray, List.set_cons_zero, List.set_cons_succ])
    refine wq_pass (by kernel_rfl) ?_
    (try simp only [Act.put, List.setIfInBounds_toArray, List.set_cons_zero, List.set_cons_succ])
    refine wq_pass (by kernel_rfl) ?_
    (try simp only [Act.put, List.setIfInBounds_toArray, List.set_cons_zero, List.set_cons_succ])
    refine wq_pass (by kernel_rfl) ?_
    (try simp only [Act.put, List.setIfInBounds_toArray, List.set_cons_zero, List.set_cons_succ])
    refine wq_pass (by kernel_rfl) ?_
    (try simp only [Act.put, List.setIfInBounds_toArray, List.set_cons_zero, List.set_cons_succ])
    refine wq_pass (by kernel_rfl) ?_
    (try simp only [Act.put, List.setIfInBounds_toArray, List.set_cons_zero, List.set_cons_succ])
    refine wq_pass (by kernel_rfl) ?_
    (try simp only [Act.put, List.setIfInBounds_toArray, List.set_cons_zero, List.set_cons_succ])
    refine wq_pass (by kernel_rfl) ?_
    (try simp only [Act.put, List.setIfInBounds_toArray, List.set_cons_zero, List.set_cons_succ])
    refine wq_pass (by kernel_rfl) ?_
    (try simp only [Act.put, List.setIfInBounds_toArray, List.set_cons_zero, List.set_cons_succ])
    refine wq_pass (by kernel_rfl) ?_
    (try simp only [Act.put, List.setIfInBounds_toArray, List.set_cons_zero, List.set_cons_succ])
    refine wq_pass (by kernel_rfl) ?_
    (try simp only [Act.put, List.setIfInBounds_toArray, List.set_cons_zero, List.set_cons_succ])
    refine wq_take (.bool true) (by kernel_rfl) ?_ ?_
    · (intro _ _; go_simp)
    (try simp only [Act.put, List.setIfInBounds_toArray, List.set_cons_zero, List.set_cons_succ])
    refine wq_take (.bool true) (by kernel_rfl) ?_ ?_
    · (intro _ _; go_simp)
    (try simp only [Act.put, List.setIfInBounds_toArray, List.set_cons_zero, List.set_cons_succ])
    refine wq_nil ?_
    intro W3 hC
    have S3 := Lib.hid hC
    clear hC S
    go_wp2
    go_ret
    exact ⟨rfl, S3.out.below⟩
  · have hI : decide ((300 : Int) < (s.size : Int)) = false := decide_eq_false (by omega)
    refine wq_region (C := RowsS w [(w.heap.size, entL n s)]) (by kernel_rfl) S.out.drew ?_
    refine wq_take (.pointer (some ⟨w.heap.size, 1, none⟩)) (by kernel_rfl) ?_ ?_
    · (intro _ _; go_simp) <;> rfl
    (try simp only [Act.put, List.setIfInBounds_toArray, List.set_cons_zero, List.set_cons_succ])
    refine wq_take (.string s) (by kernel_rfl) ?_ ?_
    · (intro _ hC; have hc := hC.at0.cell 1 _ rfl; go_simp)
    (try simp only [Act.put, List.setIfInBounds_toArray, List.set_cons_zero, List.set_cons_succ])
    refine wq_take (.int .i64 (s.size : Int)) (by kernel_rfl) ?_ ?_
    · (intro _ _; go_simp)
    (try simp only [Act.put, List.setIfInBounds_toArray, List.set_cons_zero, List.set_cons_succ])
    refine wq_take (.bool false) (by kernel_rfl) ?_ ?_
    · (intro _ _; go_simp)
    (try simp only [Act.put, List.setIfInBounds_toArray, List.set_cons_zero, List.set_cons_succ])
    refine wq_take (.bool false) (by kernel_rfl) ?_ ?_
    · (intro _ _; go_simp)
    (try simp only [Act.put, List.setIfInBounds_toArray, List.set_cons_zero, List.set_cons_succ])
    refine wq_take (.pointer (some ⟨w.heap.size, 1, none⟩)) (by kernel_rfl) ?_ ?_
    · (intro _ _; go_simp) <;> rfl
    (try simp only [Act.put, List.setIfInBounds_toArray, List.set_cons_zero, List.set_cons_succ])
    refine wq_take (.string s) (by kernel_rfl) ?_ ?_
    · (intro _ hC; have hc := hC.at0.cell 1 _ rfl; go_simp)
    (try simp only [Act.put, List.setIfInBounds_toArray, List.set_cons_zero, List.set_cons_succ])
    refine wq_call 9 #[.string s] (.int .i64 c) (by kernel_rfl) (fun _ => by go_simp <;> rfl) (fun W hC => (HC.out W).mono fun _ _ h => ⟨h.1, hC.call h.2⟩) ?_
    (try simp only [Act.put, List.setIfInBounds_toArray, List.set_cons_zero, List.set_cons_succ])
    refine wq_take (.pointer (some ⟨w.heap.size, 1, none⟩)) (by kernel_rfl) ?_ ?_
    · (intro _ _; go_simp) <;> rfl
    (try simp only [Act.put, List.setIfInBounds_toArray, List.set_cons_zero, List.set_cons_succ])
    refine wq_take (.string s) (by kernel_rfl) ?_ ?_
    · (intro _ hC; have hc := hC.at0.cell 1 _ rfl; go_simp)
    (try simp only [Act.put, List.setIfInBounds_toArray, List.set_cons_zero, List.set_cons_succ])
    refine wq_call 10 #[.string s] (.int .i64 c) (by kernel_rfl) (fun _ => by go_simp <;> rfl) (fun W hC => (HD.out W).mono fun _ _ h => ⟨h.1, hC.call h.2⟩) ?_
    (try simp only [Act.put, List.setIfInBounds_toArray, List.set_cons_zero, List.set_cons_succ])
    refine wq_take (.bool true) (by kernel_rfl) ?_ ?_
    · (intro _ _; go_simp)
    (try simp only [Act.put, List.setIfInBounds_toArray, List.set_cons_zero, List.set_cons_succ])
    refine wq_take (.bool true) (by kernel_rfl) ?_ ?_
    · (intro _ _; go_simp)
    (try simp only [Act.put, List.setIfInBounds_toArray, List.set_cons_zero, List.set_cons_succ])
    refine wq_row entT (entL_len _ _) (.tmp 1) rfl rfl (by kernel_rfl) (fun _ hC => hC.at0) ?_
    (try simp only [Act.put, List.setIfInBounds_toArray, List.set_cons_zero, List.set_cons_succ])
    refine wq_call 11 #[entV n s] (.bool r) (by kernel_rfl) (fun _ => by go_simp <;> rfl) (fun W hC => (HR.out W).mono fun _ _ h => ⟨h.1, hC.call h.2⟩) ?_
    (try simp only [Act.put, List.setIfInBounds_toArray, List.set_cons_zero, List.set_cons_succ])
    refine wq_row entT (entL_len _ _) (.tmp 1) rfl rfl (by kernel_rfl) (fun _ hC => hC.at0) ?_
    (try simp only [Act.put, List.setIfInBounds_toArray, List.set_cons_zero, List.set_cons_succ])
    refine wq_call 12 #[entV n s] (.bool r) (by kernel_rfl) (fun _ => by go_simp <;> rfl) (fun W hC => (HQ.out W).mono fun _ _ h => ⟨h.1, hC.call h.2⟩) ?_
    (try simp only [Act.put, List.setIfInBounds_toArray, List.set_cons_zero, List.set_cons_succ])
    refine wq_take (.bool true) (by kernel_rfl) ?_ ?_
    · (intro _ _; cases r <;> go_simp)
    (try simp only [Act.put, List.setIfInBounds_toArray, List.set_cons_zero, List.set_cons_succ])
    refine wq_take (.bool true) (by kernel_rfl) ?_ ?_
    · (intro _ _; go_simp)
    (try simp only [Act.put, List.setIfInBounds_toArray, List.set_cons_zero, List.set_cons_succ])
    refine wq_take (.bool true) (by kernel_rfl) ?_ ?_
    · (intro _ _; go_simp)
    (try simp only [Act.put, List.setIfInBounds_toArray, List.set_cons_zero, List.set_cons_succ])
    refine wq_take (.bool true) (by kernel_rfl) ?_ ?_
    · (intro _ _; go_simp)
    (try simp only [Act.put, List.setIfInBounds_toArray, List.set_cons_zero, List.set_cons_succ])
    refine wq_nil ?_
    intro W3 hC
    have S3 := Lib.hid hC
    clear hC S
    go_wp2
    go_ret
    exact ⟨rfl, S3.out.below⟩
set_option maxRecDepth 100000 in
theorem lifted (os : Os) (started : os.Started) (H : Type) (enc : TypeId × Value → H) :
    ReturnsInHanded {} Try.checked os 3 .any (Rows.slotNamesSpec.pre6 enc Try.prog Try.f3 Rows.slotNamesRow.domain false) (Rows.slotNamesSpec.post enc Try.prog Try.f3 false true false false) := by
  refine returnsInHanded_of_change (C := Try.checked) own started (by kernel_rfl) Try.func3
    (ChangeSpec.witness6 (enc := enc) (C := Try.checked) false ⟨#[], #[.agg #[.int .i64 0, .string ⟨#[]⟩]], []⟩ 8 (by kernel_rfl) (by kernel_rfl) (by kernel_rfl) (by kernel_rfl)) ?_
  intro W base args ds gs before hval0 hW hcnd _
  have hval : ∀ (j : Nat) t v, Try.f3.params[j]? = some t → args[j]? = some v → Value.okWide Try.prog W .any base t v := hval0
  have hW' := hW
  obtain ⟨p, q, hA0, hV, rfl, hfz, hnd⟩ := hW
  have hA : DataW.TrodAll enc Try.prog W 0 (fun _ => true) true Try.f3.params.toList args.toList ds p := hA0
  rw [Try.params3] at hA hval
  obtain ⟨v0, vs0, d0, ds0, p0, q0, hargs, rfl, rfl, h0, r0⟩ := trodAll_cons hA
  obtain ⟨rfl, rfl, rfl⟩ := trodAll_nil r0
  obtain rfl : args = #[v0] := by cases args; simp_all
  obtain ⟨rfl, rfl⟩ := trodVars_none hV
  have k0 := h0
  have lt0 : ∀ x ∈ p0, x.block < W.heap.size := by obtain ⟨m, hm⟩ := k0; exact DataW.trod_lt m _ _ _ hm
  obtain ⟨n, s, rfl, hm⟩ := open_ent (hval 0 23 v0 rfl rfl) h0
  clear hA0 hval0
  refine (walk n s W hm).mono fun e W' ⟨he, bel⟩ => ?_
  subst he
  exact ⟨_, rfl, _, _, _, [], _, [], hW', trodAll_mk1 (shut_bool Try.underlying4 _), (trodAll_cons_mk (Below.trod laidOut (by kernel_rfl) (of_decide_eq_true (by kernel_rfl)) k0 bel lt0) trodAll_mk0), rfl, bel.frame _, fun h => by cases h⟩
theorem over : Rows.slotNamesRow.holds Try.pinned (OpenSpec.ofChange Rows.slotNamesSpec) :=
  OpenClaim.holds_of_wide 3 Try.f3 rfl rfl rfl rfl rfl rfl rfl ⟨rfl, rfl, rfl, rfl, rfl⟩ rfl rfl rfl rfl rfl (by kernel_rfl) Try.func3 (by kernel_rfl)
    (of_decide_eq_true (by kernel_rfl)) (by unfold Func.isWrapper; first | (rw [if_pos (by decide +kernel)]; kernel_rfl) | (rw [if_neg (by decide +kernel)]; exact ⟨rfl, rfl⟩))
    (fun os started H enc _ => lifted os started H enc)

/-- THE STATEMENT -/
theorem proved : Rows.SlotNamesSaid := over
#print axioms proved
end Go.Proofs.Ytejedkdlehgnpaa.slotNames
