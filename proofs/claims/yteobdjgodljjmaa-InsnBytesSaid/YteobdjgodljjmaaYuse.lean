/-
  The project's own usesOf, partRight, isShift, isRight, HasImm, IsJump.
-/
import Derived.Test.YteobdjgodljjmaaYmem
namespace Go.Proofs.Yteobdjgodljjmaa
open Go.RowKit Go.Maps

theorem usesT : RowT 61 4 := ⟨⟨_, Try.underlying61, rfl⟩, by kernel_rfl⟩
def useL (o : Int) : List Value := [.bool (Y.known o && Y.useDst o), .bool (Y.known o && Y.useSrc o), .bool (Y.known o && Y.useOff o), .bool (Y.known o && Y.useImm o)]
theorem useL_one (o : Int) : ∀ v ∈ useL o, v.oneCell' = true := by
  intro v hv
  simp only [useL, List.mem_cons, List.not_mem_nil, or_false] at hv
  rcases hv with rfl | rfl | rfl | rfl <;> rfl
def useB (a b c d : Bool) : List Value := [.bool a, .bool b, .bool c, .bool d]
theorem useB_one (a b c d : Bool) : ∀ v ∈ useB a b c d, v.oneCell' = true := by
  intro v hv
  simp only [useB, List.mem_cons, List.not_mem_nil, or_false] at hv
  rcases hv with rfl | rfl | rfl | rfl <;> rfl
theorem use_not {o : Int} (h : Y.known o = false) : useL o = useB false false false false := by unfold useL useB; rw [h]; rfl
/-- all that one can be -/
theorem uses_is (o : Int) (a b c d k : Bool) (h : (Y.known o = k) ∧ (k && Y.useDst o) = a ∧ (k && Y.useSrc o) = b ∧ (k && Y.useOff o) = c ∧ (k && Y.useImm o) = d) : (.tuple #[.agg (useB a b c d).toArray, .bool k] : Value) = .tuple #[.agg (useL o).toArray, .bool (Y.known o)] := by
  obtain ⟨h1, h2, h3, h4, h5⟩ := h
  unfold useL useB
  rw [h1, h2, h3, h4, h5]
set_option maxRecDepth 100000 in
set_option maxHeartbeats 4000000 in
theorem usesOf_any (o : Int) (w : World) : Calls Try.prog 28 #[.int .i64 o] w fun e w' => e = .returned (.tuple #[.agg (useL o).toArray, .bool (Y.known o)]) ∧ Below w.heap.size w w' := by
  go_enter Try.func28, Try.ntmps28
  go_wp2
  all_goals
    first
      | (refine bodyPost_ret (results_row2 (vs := useB true true false false) usesT _ 2 3 rfl _ (rowAt_new w _ _) rfl rfl rfl) rfl ⟨congrArg _ (uses_is o true true false false true ?_), (Below.refl _ _).alloc (Nat.le_refl _) _⟩; simp only [beq_iff_eq] at *; subst_vars; decide)
      | (refine bodyPost_ret (results_row2 (vs := useB true false false true) usesT _ 2 3 rfl _ (rowAt_new w _ _) rfl rfl rfl) rfl ⟨congrArg _ (uses_is o true false false true true ?_), (Below.refl _ _).alloc (Nat.le_refl _) _⟩; simp only [beq_iff_eq] at *; subst_vars; decide)
      | (refine bodyPost_ret (results_row2 (vs := useB false false true false) usesT _ 2 3 rfl _ (rowAt_new w _ _) rfl rfl rfl) rfl ⟨congrArg _ (uses_is o false false true false true ?_), (Below.refl _ _).alloc (Nat.le_refl _) _⟩; simp only [beq_iff_eq] at *; subst_vars; decide)
      | (refine bodyPost_ret (results_row2 (vs := useB true true true false) usesT _ 2 3 rfl _ (rowAt_new w _ _) rfl rfl rfl) rfl ⟨congrArg _ (uses_is o true true true false true ?_), (Below.refl _ _).alloc (Nat.le_refl _) _⟩; simp only [beq_iff_eq] at *; subst_vars; decide)
      | (refine bodyPost_ret (results_row2 (vs := useB true false true true) usesT _ 2 3 rfl _ (rowAt_new w _ _) rfl rfl rfl) rfl ⟨congrArg _ (uses_is o true false true true true ?_), (Below.refl _ _).alloc (Nat.le_refl _) _⟩; simp only [beq_iff_eq] at *; subst_vars; decide)
      | (refine bodyPost_ret (results_row2 (vs := useB true false true false) usesT _ 2 3 rfl _ (rowAt_new w _ _) rfl rfl rfl) rfl ⟨congrArg _ (uses_is o true false true false true ?_), (Below.refl _ _).alloc (Nat.le_refl _) _⟩; simp only [beq_iff_eq] at *; subst_vars; decide)
      | (refine bodyPost_ret (results_row2 (vs := useB false true true false) usesT _ 2 3 rfl _ (rowAt_new w _ _) rfl rfl rfl) rfl ⟨congrArg _ (uses_is o false true true false true ?_), (Below.refl _ _).alloc (Nat.le_refl _) _⟩; simp only [beq_iff_eq] at *; subst_vars; decide)
      | (refine bodyPost_ret (results_row2 (vs := useB false false false true) usesT _ 2 3 rfl _ (rowAt_new w _ _) rfl rfl rfl) rfl ⟨congrArg _ (uses_is o false false false true true ?_), (Below.refl _ _).alloc (Nat.le_refl _) _⟩; simp only [beq_iff_eq] at *; subst_vars; decide)
      | (refine bodyPost_ret (results_row2 (vs := useB false false false false) usesT _ 2 3 rfl _ (rowAt_new w _ _) rfl rfl rfl) rfl ⟨congrArg _ (uses_is o false false false false true ?_), (Below.refl _ _).alloc (Nat.le_refl _) _⟩; simp only [beq_iff_eq] at *; subst_vars; decide)
      | (refine bodyPost_ret (results_row2 (vs := useB false false false false) usesT _ 2 3 rfl _ (rowAt_new w _ _) rfl rfl rfl) rfl ⟨congrArg _ (uses_is o false false false false false ⟨?_, rfl, rfl, rfl, rfl⟩), (Below.refl _ _).alloc (Nat.le_refl _) _⟩; unfold Y.known; refine decide_eq_false ?_; simp at *; omega)
end Go.Proofs.Yteobdjgodljjmaa
