/-
  Does a jump hold a reference against 0?
-/
import Derived.Test.YthngbakbiocadaaMn
import Derived.Test.YthngbakbiocadaaMb

namespace Go.Proofs.Ythngbakbiocadaa
set_option maxRecDepth 100000
open Go.ChangeShapes Go.WideShapes Go.ChangeAt Go.RowKit Go.Maps
open V
section
variable {E : Ev} {S : Nat → Prop} {s : V.St} {W : World}
theorem kind_ref (c : V.Cell) : (c.kind == 2) = isRef c := by cases c <;> rfl
def FndC (W : World) (x : Y.In) (R j : Nat) (kd : Int) (w' : World) : Prop := Yq.BoxS W W.heap.size x w' ∧ w'.cell? ⟨R, 5 + j * 3, none⟩ = some (.int .i64 kd)
set_option maxHeartbeats 2000000 in
theorem found_37y (h : RunAt E S s W) (o : Int) (j : Nat) (hj : j < 8) (sr f im : Int) (h37 : (o == 37) = true) (him : (im == 0) = true) : Calls Try.prog 76 #[.pointer (some ⟨E.R, 0, none⟩), .agg #[.int .i64 o, .int .i64 (j : Int), .int .i64 sr, .int .i64 f, .int .i64 im]] W fun e w' => e = .returned (.bool ((s.r (j : Int)).kind == 2)) ∧ Below W.heap.size W w' := by
  obtain ⟨x, hx⟩ : ∃ x : Y.In, x = ⟨o, (j : Int), sr, f, im⟩ := ⟨_, rfl⟩
  have hk := fun W' (hb : Below W.heap.size W W') => (h.step hb).kind j hj
  generalize (s.r (j : Int)).kind = kd at hk ⊢
  have HX : Hid (FndC W ⟨o, (j : Int), sr, f, im⟩ E.R j kd (W.alloc (.cells #[.int .i64 o, .int .i64 (j : Int), .int .i64 sr, .int .i64 f, .int .i64 im] 64))) := Lib.hid ⟨Yq.boxS_new W ⟨o, (j : Int), sr, f, im⟩ _, hk _ (below_new _ _)⟩
  have hj0 : (0 : Int) ≤ (j : Int) := by omega
  have hj8 : (j : Int) < 8 := by omega
  clear h hk hx x
  go_enter Try.func76, Try.ntmps76
  go_upto_region 1 with fail
  generalize W.alloc (.cells #[.int .i64 o, .int .i64 (j : Int), .int .i64 sr, .int .i64 f, .int .i64 im] 64) = W1 at HX ⊢
  refine wq_region (C := FndC W ⟨o, (j : Int), sr, f, im⟩ E.R j kd) (by kernel_rfl) (⟨HX.out.1.call (drew_below _), HX.out.2⟩) ?_
  refine wq_take (.pointer (some ⟨W.heap.size, 0, none⟩)) (by kernel_rfl) ?_ ?_
  · (intro w' hS; go_simp)
  (try simp only [Act.put, List.setIfInBounds_toArray, List.set_cons_zero, List.set_cons_succ])
  refine wq_take (.int .i64 o) (by kernel_rfl) ?_ ?_
  · (intro w' hS; (obtain ⟨⟨c0, c1, c2, c3, c4⟩, ck⟩ := (And.intro hS.1.cells hS.2); go_simp))
  (try simp only [Act.put, List.setIfInBounds_toArray, List.set_cons_zero, List.set_cons_succ])
  refine wq_take (.bool true) (by kernel_rfl) ?_ ?_
  · (intro w' hS; go_simp)
  (try simp only [Act.put, List.setIfInBounds_toArray, List.set_cons_zero, List.set_cons_succ])
  refine wq_take (.bool true) (by kernel_rfl) ?_ ?_
  · (intro w' hS; go_simp)
  (try simp only [Act.put, List.setIfInBounds_toArray, List.set_cons_zero, List.set_cons_succ])
  refine wq_pass (by kernel_rfl) ?_
  (try simp only [Act.put, List.setIfInBounds_toArray, List.set_cons_zero, List.set_cons_succ])
  refine wq_pass (by kernel_rfl) ?_
  (try simp only [Act.put, List.setIfInBounds_toArray, List.set_cons_zero, List.set_cons_succ])
  refine wq_pass (by kernel_rfl) ?_
  (try simp only [Act.put, List.setIfInBounds_toArray, List.set_cons_zero, List.set_cons_succ])
  refine wq_take (.bool true) (by kernel_rfl) ?_ ?_
  · (intro w' hS; go_simp)
  (try simp only [Act.put, List.setIfInBounds_toArray, List.set_cons_zero, List.set_cons_succ])
  refine wq_take (.bool true) (by kernel_rfl) ?_ ?_
  · (intro w' hS; go_simp)
  (try simp only [Act.put, List.setIfInBounds_toArray, List.set_cons_zero, List.set_cons_succ])
  refine wq_take (.pointer (some ⟨W.heap.size, 4, none⟩)) (by kernel_rfl) ?_ ?_
  · (intro w' hS; go_simp)
  (try simp only [Act.put, List.setIfInBounds_toArray, List.set_cons_zero, List.set_cons_succ])
  refine wq_take (.int .i64 im) (by kernel_rfl) ?_ ?_
  · (intro w' hS; (obtain ⟨⟨c0, c1, c2, c3, c4⟩, ck⟩ := (And.intro hS.1.cells hS.2); go_simp))
  (try simp only [Act.put, List.setIfInBounds_toArray, List.set_cons_zero, List.set_cons_succ])
  refine wq_take (.bool true) (by kernel_rfl) ?_ ?_
  · (intro w' hS; go_simp)
  (try simp only [Act.put, List.setIfInBounds_toArray, List.set_cons_zero, List.set_cons_succ])
  refine wq_take (.bool true) (by kernel_rfl) ?_ ?_
  · (intro w' hS; go_simp)
  (try simp only [Act.put, List.setIfInBounds_toArray, List.set_cons_zero, List.set_cons_succ])
  refine wq_take (.bool true) (by kernel_rfl) ?_ ?_
  · (intro w' hS; go_simp)
  (try simp only [Act.put, List.setIfInBounds_toArray, List.set_cons_zero, List.set_cons_succ])
  refine wq_take (.pointer (some ⟨E.R, 0, none⟩)) (by kernel_rfl) ?_ ?_
  · (intro w' hS; go_simp)
  (try simp only [Act.put, List.setIfInBounds_toArray, List.set_cons_zero, List.set_cons_succ])
  refine wq_take (.pointer (some ⟨W.heap.size, 1, none⟩)) (by kernel_rfl) ?_ ?_
  · (intro w' hS; go_simp)
  (try simp only [Act.put, List.setIfInBounds_toArray, List.set_cons_zero, List.set_cons_succ])
  refine wq_take (.int .i64 (j : Int)) (by kernel_rfl) ?_ ?_
  · (intro w' hS; (obtain ⟨⟨c0, c1, c2, c3, c4⟩, ck⟩ := (And.intro hS.1.cells hS.2); go_simp))
  (try simp only [Act.put, List.setIfInBounds_toArray, List.set_cons_zero, List.set_cons_succ])
  refine wq_take (.pointer (some ⟨E.R, 0, none⟩)) (by kernel_rfl) ?_ ?_
  · (intro w' hS; go_simp)
  (try simp only [Act.put, List.setIfInBounds_toArray, List.set_cons_zero, List.set_cons_succ])
  refine wq_take (.pointer (some ⟨E.R, 5, none⟩)) (by kernel_rfl) ?_ ?_
  · (intro w' hS; go_simp)
  (try simp only [Act.put, List.setIfInBounds_toArray, List.set_cons_zero, List.set_cons_succ])
  refine wq_take (.pointer (some ⟨E.R, 5 + j * 3, none⟩)) (by kernel_rfl) ?_ ?_
  · (intro w' hS; go_simp)
  (try simp only [Act.put, List.setIfInBounds_toArray, List.set_cons_zero, List.set_cons_succ])
  refine wq_take (.pointer (some ⟨E.R, 5 + j * 3, none⟩)) (by kernel_rfl) ?_ ?_
  · (intro w' hS; go_simp)
  (try simp only [Act.put, List.setIfInBounds_toArray, List.set_cons_zero, List.set_cons_succ])
  refine wq_take (.int .i64 kd) (by kernel_rfl) ?_ ?_
  · (intro w' hS; (obtain ⟨⟨c0, c1, c2, c3, c4⟩, ck⟩ := (And.intro hS.1.cells hS.2); go_simp))
  (try simp only [Act.put, List.setIfInBounds_toArray, List.set_cons_zero, List.set_cons_succ])
  refine wq_take (.bool (kd == 2)) (by kernel_rfl) ?_ ?_
  · (intro w' hS; go_simp)
  (try simp only [Act.put, List.setIfInBounds_toArray, List.set_cons_zero, List.set_cons_succ])
  refine wq_take (.bool (kd == 2)) (by kernel_rfl) ?_ ?_
  · (intro w' hS; go_simp)
  (try simp only [Act.put, List.setIfInBounds_toArray, List.set_cons_zero, List.set_cons_succ])
  refine wq_take (.bool (kd == 2)) (by kernel_rfl) ?_ ?_
  · (intro w' hS; go_simp)
  (try simp only [Act.put, List.setIfInBounds_toArray, List.set_cons_zero, List.set_cons_succ])
  refine wq_nil ?_
  intro w' hS
  go_wp2
  go_ret
  exact ⟨rfl, hS.1.bel⟩
set_option maxHeartbeats 2000000 in
theorem found_37n (h : RunAt E S s W) (o : Int) (j : Nat) (hj : j < 8) (sr f im : Int) (h37 : (o == 37) = true) (him : (im == 0) = false) : Calls Try.prog 76 #[.pointer (some ⟨E.R, 0, none⟩), .agg #[.int .i64 o, .int .i64 (j : Int), .int .i64 sr, .int .i64 f, .int .i64 im]] W fun e w' => e = .returned (.bool (false)) ∧ Below W.heap.size W w' := by
  obtain ⟨x, hx⟩ : ∃ x : Y.In, x = ⟨o, (j : Int), sr, f, im⟩ := ⟨_, rfl⟩
  have hk := fun W' (hb : Below W.heap.size W W') => (h.step hb).kind j hj
  generalize (s.r (j : Int)).kind = kd at hk ⊢
  have HX : Hid (FndC W ⟨o, (j : Int), sr, f, im⟩ E.R j kd (W.alloc (.cells #[.int .i64 o, .int .i64 (j : Int), .int .i64 sr, .int .i64 f, .int .i64 im] 64))) := Lib.hid ⟨Yq.boxS_new W ⟨o, (j : Int), sr, f, im⟩ _, hk _ (below_new _ _)⟩
  have hj0 : (0 : Int) ≤ (j : Int) := by omega
  have hj8 : (j : Int) < 8 := by omega
  clear h hk hx x
  go_enter Try.func76, Try.ntmps76
  go_upto_region 1 with fail
  generalize W.alloc (.cells #[.int .i64 o, .int .i64 (j : Int), .int .i64 sr, .int .i64 f, .int .i64 im] 64) = W1 at HX ⊢
  refine wq_region (C := FndC W ⟨o, (j : Int), sr, f, im⟩ E.R j kd) (by kernel_rfl) (⟨HX.out.1.call (drew_below _), HX.out.2⟩) ?_
  refine wq_take (.pointer (some ⟨W.heap.size, 0, none⟩)) (by kernel_rfl) ?_ ?_
  · (intro w' hS; go_simp)
  (try simp only [Act.put, List.setIfInBounds_toArray, List.set_cons_zero, List.set_cons_succ])
  refine wq_take (.int .i64 o) (by kernel_rfl) ?_ ?_
  · (intro w' hS; (obtain ⟨⟨c0, c1, c2, c3, c4⟩, ck⟩ := (And.intro hS.1.cells hS.2); go_simp))
  (try simp only [Act.put, List.setIfInBounds_toArray, List.set_cons_zero, List.set_cons_succ])
  refine wq_take (.bool true) (by kernel_rfl) ?_ ?_
  · (intro w' hS; go_simp)
  (try simp only [Act.put, List.setIfInBounds_toArray, List.set_cons_zero, List.set_cons_succ])
  refine wq_take (.bool true) (by kernel_rfl) ?_ ?_
  · (intro w' hS; go_simp)
  (try simp only [Act.put, List.setIfInBounds_toArray, List.set_cons_zero, List.set_cons_succ])
  refine wq_pass (by kernel_rfl) ?_
  (try simp only [Act.put, List.setIfInBounds_toArray, List.set_cons_zero, List.set_cons_succ])
  refine wq_pass (by kernel_rfl) ?_
  (try simp only [Act.put, List.setIfInBounds_toArray, List.set_cons_zero, List.set_cons_succ])
  refine wq_pass (by kernel_rfl) ?_
  (try simp only [Act.put, List.setIfInBounds_toArray, List.set_cons_zero, List.set_cons_succ])
  refine wq_take (.bool true) (by kernel_rfl) ?_ ?_
  · (intro w' hS; go_simp)
  (try simp only [Act.put, List.setIfInBounds_toArray, List.set_cons_zero, List.set_cons_succ])
  refine wq_take (.bool true) (by kernel_rfl) ?_ ?_
  · (intro w' hS; go_simp)
  (try simp only [Act.put, List.setIfInBounds_toArray, List.set_cons_zero, List.set_cons_succ])
  refine wq_take (.pointer (some ⟨W.heap.size, 4, none⟩)) (by kernel_rfl) ?_ ?_
  · (intro w' hS; go_simp)
  (try simp only [Act.put, List.setIfInBounds_toArray, List.set_cons_zero, List.set_cons_succ])
  refine wq_take (.int .i64 im) (by kernel_rfl) ?_ ?_
  · (intro w' hS; (obtain ⟨⟨c0, c1, c2, c3, c4⟩, ck⟩ := (And.intro hS.1.cells hS.2); go_simp))
  (try simp only [Act.put, List.setIfInBounds_toArray, List.set_cons_zero, List.set_cons_succ])
  refine wq_take (.bool false) (by kernel_rfl) ?_ ?_
  · (intro w' hS; go_simp)
  (try simp only [Act.put, List.setIfInBounds_toArray, List.set_cons_zero, List.set_cons_succ])
  refine wq_take (.bool false) (by kernel_rfl) ?_ ?_
  · (intro w' hS; go_simp)
  (try simp only [Act.put, List.setIfInBounds_toArray, List.set_cons_zero, List.set_cons_succ])
  refine wq_take (.bool false) (by kernel_rfl) ?_ ?_
  · (intro w' hS; go_simp)
  (try simp only [Act.put, List.setIfInBounds_toArray, List.set_cons_zero, List.set_cons_succ])
  refine wq_pass (by kernel_rfl) ?_
  (try simp only [Act.put, List.setIfInBounds_toArray, List.set_cons_zero, List.set_cons_succ])
  refine wq_pass (by kernel_rfl) ?_
  (try simp only [Act.put, List.setIfInBounds_toArray, List.set_cons_zero, List.set_cons_succ])
  refine wq_pass (by kernel_rfl) ?_
  (try simp only [Act.put, List.setIfInBounds_toArray, List.set_cons_zero, List.set_cons_succ])
  refine wq_pass (by kernel_rfl) ?_
  (try simp only [Act.put, List.setIfInBounds_toArray, List.set_cons_zero, List.set_cons_succ])
  refine wq_pass (by kernel_rfl) ?_
  (try simp only [Act.put, List.setIfInBounds_toArray, List.set_cons_zero, List.set_cons_succ])
  refine wq_pass (by kernel_rfl) ?_
  (try simp only [Act.put, List.setIfInBounds_toArray, List.set_cons_zero, List.set_cons_succ])
  refine wq_pass (by kernel_rfl) ?_
  (try simp only [Act.put, List.setIfInBounds_toArray, List.set_cons_zero, List.set_cons_succ])
  refine wq_pass (by kernel_rfl) ?_
  (try simp only [Act.put, List.setIfInBounds_toArray, List.set_cons_zero, List.set_cons_succ])
  refine wq_pass (by kernel_rfl) ?_
  (try simp only [Act.put, List.setIfInBounds_toArray, List.set_cons_zero, List.set_cons_succ])
  refine wq_take (.bool false) (by kernel_rfl) ?_ ?_
  · (intro w' hS; go_simp)
  (try simp only [Act.put, List.setIfInBounds_toArray, List.set_cons_zero, List.set_cons_succ])
  refine wq_take (.bool false) (by kernel_rfl) ?_ ?_
  · (intro w' hS; go_simp)
  (try simp only [Act.put, List.setIfInBounds_toArray, List.set_cons_zero, List.set_cons_succ])
  refine wq_nil ?_
  intro w' hS
  go_wp2
  go_ret
  exact ⟨rfl, hS.1.bel⟩
set_option maxHeartbeats 2000000 in
theorem found_38y (h : RunAt E S s W) (o : Int) (j : Nat) (hj : j < 8) (sr f im : Int) (h37 : (o == 37) = false) (h38 : (o == 38) = true) (him : (im == 0) = true) : Calls Try.prog 76 #[.pointer (some ⟨E.R, 0, none⟩), .agg #[.int .i64 o, .int .i64 (j : Int), .int .i64 sr, .int .i64 f, .int .i64 im]] W fun e w' => e = .returned (.bool ((s.r (j : Int)).kind == 2)) ∧ Below W.heap.size W w' := by
  obtain ⟨x, hx⟩ : ∃ x : Y.In, x = ⟨o, (j : Int), sr, f, im⟩ := ⟨_, rfl⟩
  have hk := fun W' (hb : Below W.heap.size W W') => (h.step hb).kind j hj
  generalize (s.r (j : Int)).kind = kd at hk ⊢
  have HX : Hid (FndC W ⟨o, (j : Int), sr, f, im⟩ E.R j kd (W.alloc (.cells #[.int .i64 o, .int .i64 (j : Int), .int .i64 sr, .int .i64 f, .int .i64 im] 64))) := Lib.hid ⟨Yq.boxS_new W ⟨o, (j : Int), sr, f, im⟩ _, hk _ (below_new _ _)⟩
  have hj0 : (0 : Int) ≤ (j : Int) := by omega
  have hj8 : (j : Int) < 8 := by omega
  clear h hk hx x
  go_enter Try.func76, Try.ntmps76
  go_upto_region 1 with fail
  generalize W.alloc (.cells #[.int .i64 o, .int .i64 (j : Int), .int .i64 sr, .int .i64 f, .int .i64 im] 64) = W1 at HX ⊢
  refine wq_region (C := FndC W ⟨o, (j : Int), sr, f, im⟩ E.R j kd) (by kernel_rfl) (⟨HX.out.1.call (drew_below _), HX.out.2⟩) ?_
  refine wq_take (.pointer (some ⟨W.heap.size, 0, none⟩)) (by kernel_rfl) ?_ ?_
  · (intro w' hS; go_simp)
  (try simp only [Act.put, List.setIfInBounds_toArray, List.set_cons_zero, List.set_cons_succ])
  refine wq_take (.int .i64 o) (by kernel_rfl) ?_ ?_
  · (intro w' hS; (obtain ⟨⟨c0, c1, c2, c3, c4⟩, ck⟩ := (And.intro hS.1.cells hS.2); go_simp))
  (try simp only [Act.put, List.setIfInBounds_toArray, List.set_cons_zero, List.set_cons_succ])
  refine wq_take (.bool false) (by kernel_rfl) ?_ ?_
  · (intro w' hS; go_simp)
  (try simp only [Act.put, List.setIfInBounds_toArray, List.set_cons_zero, List.set_cons_succ])
  refine wq_take (.bool false) (by kernel_rfl) ?_ ?_
  · (intro w' hS; go_simp)
  (try simp only [Act.put, List.setIfInBounds_toArray, List.set_cons_zero, List.set_cons_succ])
  refine wq_take (.pointer (some ⟨W.heap.size, 0, none⟩)) (by kernel_rfl) ?_ ?_
  · (intro w' hS; go_simp)
  (try simp only [Act.put, List.setIfInBounds_toArray, List.set_cons_zero, List.set_cons_succ])
  refine wq_take (.int .i64 o) (by kernel_rfl) ?_ ?_
  · (intro w' hS; (obtain ⟨⟨c0, c1, c2, c3, c4⟩, ck⟩ := (And.intro hS.1.cells hS.2); go_simp))
  (try simp only [Act.put, List.setIfInBounds_toArray, List.set_cons_zero, List.set_cons_succ])
  refine wq_take (.bool true) (by kernel_rfl) ?_ ?_
  · (intro w' hS; go_simp)
  (try simp only [Act.put, List.setIfInBounds_toArray, List.set_cons_zero, List.set_cons_succ])
  refine wq_take (.bool true) (by kernel_rfl) ?_ ?_
  · (intro w' hS; go_simp)
  (try simp only [Act.put, List.setIfInBounds_toArray, List.set_cons_zero, List.set_cons_succ])
  refine wq_take (.bool true) (by kernel_rfl) ?_ ?_
  · (intro w' hS; go_simp)
  (try simp only [Act.put, List.setIfInBounds_toArray, List.set_cons_zero, List.set_cons_succ])
  refine wq_take (.pointer (some ⟨W.heap.size, 4, none⟩)) (by kernel_rfl) ?_ ?_
  · (intro w' hS; go_simp)
  (try simp only [Act.put, List.setIfInBounds_toArray, List.set_cons_zero, List.set_cons_succ])
  refine wq_take (.int .i64 im) (by kernel_rfl) ?_ ?_
  · (intro w' hS; (obtain ⟨⟨c0, c1, c2, c3, c4⟩, ck⟩ := (And.intro hS.1.cells hS.2); go_simp))
  (try simp only [Act.put, List.setIfInBounds_toArray, List.set_cons_zero, List.set_cons_succ])
  refine wq_take (.bool true) (by kernel_rfl) ?_ ?_
  · (intro w' hS; go_simp)
  (try simp only [Act.put, List.setIfInBounds_toArray, List.set_cons_zero, List.set_cons_succ])
  refine wq_take (.bool true) (by kernel_rfl) ?_ ?_
  · (intro w' hS; go_simp)
  (try simp only [Act.put, List.setIfInBounds_toArray, List.set_cons_zero, List.set_cons_succ])
  refine wq_take (.bool true) (by kernel_rfl) ?_ ?_
  · (intro w' hS; go_simp)
  (try simp only [Act.put, List.setIfInBounds_toArray, List.set_cons_zero, List.set_cons_succ])
  refine wq_take (.pointer (some ⟨E.R, 0, none⟩)) (by kernel_rfl) ?_ ?_
  · (intro w' hS; go_simp)
  (try simp only [Act.put, List.setIfInBounds_toArray, List.set_cons_zero, List.set_cons_succ])
  refine wq_take (.pointer (some ⟨W.heap.size, 1, none⟩)) (by kernel_rfl) ?_ ?_
  · (intro w' hS; go_simp)
  (try simp only [Act.put, List.setIfInBounds_toArray, List.set_cons_zero, List.set_cons_succ])
  refine wq_take (.int .i64 (j : Int)) (by kernel_rfl) ?_ ?_
  · (intro w' hS; (obtain ⟨⟨c0, c1, c2, c3, c4⟩, ck⟩ := (And.intro hS.1.cells hS.2); go_simp))
  (try simp only [Act.put, List.setIfInBounds_toArray, List.set_cons_zero, List.set_cons_succ])
  refine wq_take (.pointer (some ⟨E.R, 0, none⟩)) (by kernel_rfl) ?_ ?_
  · (intro w' hS; go_simp)
  (try simp only [Act.put, List.setIfInBounds_toArray, List.set_cons_zero, List.set_cons_succ])
  refine wq_take (.pointer (some ⟨E.R, 5, none⟩)) (by kernel_rfl) ?_ ?_
  · (intro w' hS; go_simp)
  (try simp only [Act.put, List.setIfInBounds_toArray, List.set_cons_zero, List.set_cons_succ])
  refine wq_take (.pointer (some ⟨E.R, 5 + j * 3, none⟩)) (by kernel_rfl) ?_ ?_
  · (intro w' hS; go_simp)
  (try simp only [Act.put, List.setIfInBounds_toArray, List.set_cons_zero, List.set_cons_succ])
  refine wq_take (.pointer (some ⟨E.R, 5 + j * 3, none⟩)) (by kernel_rfl) ?_ ?_
  · (intro w' hS; go_simp)
  (try simp only [Act.put, List.setIfInBounds_toArray, List.set_cons_zero, List.set_cons_succ])
  refine wq_take (.int .i64 kd) (by kernel_rfl) ?_ ?_
  · (intro w' hS; (obtain ⟨⟨c0, c1, c2, c3, c4⟩, ck⟩ := (And.intro hS.1.cells hS.2); go_simp))
  (try simp only [Act.put, List.setIfInBounds_toArray, List.set_cons_zero, List.set_cons_succ])
  refine wq_take (.bool (kd == 2)) (by kernel_rfl) ?_ ?_
  · (intro w' hS; go_simp)
  (try simp only [Act.put, List.setIfInBounds_toArray, List.set_cons_zero, List.set_cons_succ])
  refine wq_take (.bool (kd == 2)) (by kernel_rfl) ?_ ?_
  · (intro w' hS; go_simp)
  (try simp only [Act.put, List.setIfInBounds_toArray, List.set_cons_zero, List.set_cons_succ])
  refine wq_take (.bool (kd == 2)) (by kernel_rfl) ?_ ?_
  · (intro w' hS; go_simp)
  (try simp only [Act.put, List.setIfInBounds_toArray, List.set_cons_zero, List.set_cons_succ])
  refine wq_nil ?_
  intro w' hS
  go_wp2
  go_ret
  exact ⟨rfl, hS.1.bel⟩
set_option maxHeartbeats 2000000 in
theorem found_38n (h : RunAt E S s W) (o : Int) (j : Nat) (hj : j < 8) (sr f im : Int) (h37 : (o == 37) = false) (h38 : (o == 38) = true) (him : (im == 0) = false) : Calls Try.prog 76 #[.pointer (some ⟨E.R, 0, none⟩), .agg #[.int .i64 o, .int .i64 (j : Int), .int .i64 sr, .int .i64 f, .int .i64 im]] W fun e w' => e = .returned (.bool (false)) ∧ Below W.heap.size W w' := by
  obtain ⟨x, hx⟩ : ∃ x : Y.In, x = ⟨o, (j : Int), sr, f, im⟩ := ⟨_, rfl⟩
  have hk := fun W' (hb : Below W.heap.size W W') => (h.step hb).kind j hj
  generalize (s.r (j : Int)).kind = kd at hk ⊢
  have HX : Hid (FndC W ⟨o, (j : Int), sr, f, im⟩ E.R j kd (W.alloc (.cells #[.int .i64 o, .int .i64 (j : Int), .int .i64 sr, .int .i64 f, .int .i64 im] 64))) := Lib.hid ⟨Yq.boxS_new W ⟨o, (j : Int), sr, f, im⟩ _, hk _ (below_new _ _)⟩
  have hj0 : (0 : Int) ≤ (j : Int) := by omega
  have hj8 : (j : Int) < 8 := by omega
  clear h hk hx x
  go_enter Try.func76, Try.ntmps76
  go_upto_region 1 with fail
  generalize W.alloc (.cells #[.int .i64 o, .int .i64 (j : Int), .int .i64 sr, .int .i64 f, .int .i64 im] 64) = W1 at HX ⊢
  refine wq_region (C := FndC W ⟨o, (j : Int), sr, f, im⟩ E.R j kd) (by kernel_rfl) (⟨HX.out.1.call (drew_below _), HX.out.2⟩) ?_
  refine wq_take (.pointer (some ⟨W.heap.size, 0, none⟩)) (by kernel_rfl) ?_ ?_
  · (intro w' hS; go_simp)
  (try simp only [Act.put, List.setIfInBounds_toArray, List.set_cons_zero, List.set_cons_succ])
  refine wq_take (.int .i64 o) (by kernel_rfl) ?_ ?_
  · (intro w' hS; (obtain ⟨⟨c0, c1, c2, c3, c4⟩, ck⟩ := (And.intro hS.1.cells hS.2); go_simp))
  (try simp only [Act.put, List.setIfInBounds_toArray, List.set_cons_zero, List.set_cons_succ])
  refine wq_take (.bool false) (by kernel_rfl) ?_ ?_
  · (intro w' hS; go_simp)
  (try simp only [Act.put, List.setIfInBounds_toArray, List.set_cons_zero, List.set_cons_succ])
  refine wq_take (.bool false) (by kernel_rfl) ?_ ?_
  · (intro w' hS; go_simp)
  (try simp only [Act.put, List.setIfInBounds_toArray, List.set_cons_zero, List.set_cons_succ])
  refine wq_take (.pointer (some ⟨W.heap.size, 0, none⟩)) (by kernel_rfl) ?_ ?_
  · (intro w' hS; go_simp)
  (try simp only [Act.put, List.setIfInBounds_toArray, List.set_cons_zero, List.set_cons_succ])
  refine wq_take (.int .i64 o) (by kernel_rfl) ?_ ?_
  · (intro w' hS; (obtain ⟨⟨c0, c1, c2, c3, c4⟩, ck⟩ := (And.intro hS.1.cells hS.2); go_simp))
  (try simp only [Act.put, List.setIfInBounds_toArray, List.set_cons_zero, List.set_cons_succ])
  refine wq_take (.bool true) (by kernel_rfl) ?_ ?_
  · (intro w' hS; go_simp)
  (try simp only [Act.put, List.setIfInBounds_toArray, List.set_cons_zero, List.set_cons_succ])
  refine wq_take (.bool true) (by kernel_rfl) ?_ ?_
  · (intro w' hS; go_simp)
  (try simp only [Act.put, List.setIfInBounds_toArray, List.set_cons_zero, List.set_cons_succ])
  refine wq_take (.bool true) (by kernel_rfl) ?_ ?_
  · (intro w' hS; go_simp)
  (try simp only [Act.put, List.setIfInBounds_toArray, List.set_cons_zero, List.set_cons_succ])
  refine wq_take (.pointer (some ⟨W.heap.size, 4, none⟩)) (by kernel_rfl) ?_ ?_
  · (intro w' hS; go_simp)
  (try simp only [Act.put, List.setIfInBounds_toArray, List.set_cons_zero, List.set_cons_succ])
  refine wq_take (.int .i64 im) (by kernel_rfl) ?_ ?_
  · (intro w' hS; (obtain ⟨⟨c0, c1, c2, c3, c4⟩, ck⟩ := (And.intro hS.1.cells hS.2); go_simp))
  (try simp only [Act.put, List.setIfInBounds_toArray, List.set_cons_zero, List.set_cons_succ])
  refine wq_take (.bool false) (by kernel_rfl) ?_ ?_
  · (intro w' hS; go_simp)
  (try simp only [Act.put, List.setIfInBounds_toArray, List.set_cons_zero, List.set_cons_succ])
  refine wq_take (.bool false) (by kernel_rfl) ?_ ?_
  · (intro w' hS; go_simp)
  (try simp only [Act.put, List.setIfInBounds_toArray, List.set_cons_zero, List.set_cons_succ])
  refine wq_take (.bool false) (by kernel_rfl) ?_ ?_
  · (intro w' hS; go_simp)
  (try simp only [Act.put, List.setIfInBounds_toArray, List.set_cons_zero, List.set_cons_succ])
  refine wq_pass (by kernel_rfl) ?_
  (try simp only [Act.put, List.setIfInBounds_toArray, List.set_cons_zero, List.set_cons_succ])
  refine wq_pass (by kernel_rfl) ?_
  (try simp only [Act.put, List.setIfInBounds_toArray, List.set_cons_zero, List.set_cons_succ])
  refine wq_pass (by kernel_rfl) ?_
  (try simp only [Act.put, List.setIfInBounds_toArray, List.set_cons_zero, List.set_cons_succ])
  refine wq_pass (by kernel_rfl) ?_
  (try simp only [Act.put, List.setIfInBounds_toArray, List.set_cons_zero, List.set_cons_succ])
  refine wq_pass (by kernel_rfl) ?_
  (try simp only [Act.put, List.setIfInBounds_toArray, List.set_cons_zero, List.set_cons_succ])
  refine wq_pass (by kernel_rfl) ?_
  (try simp only [Act.put, List.setIfInBounds_toArray, List.set_cons_zero, List.set_cons_succ])
  refine wq_pass (by kernel_rfl) ?_
  (try simp only [Act.put, List.setIfInBounds_toArray, List.set_cons_zero, List.set_cons_succ])
  refine wq_pass (by kernel_rfl) ?_
  (try simp only [Act.put, List.setIfInBounds_toArray, List.set_cons_zero, List.set_cons_succ])
  refine wq_pass (by kernel_rfl) ?_
  (try simp only [Act.put, List.setIfInBounds_toArray, List.set_cons_zero, List.set_cons_succ])
  refine wq_take (.bool false) (by kernel_rfl) ?_ ?_
  · (intro w' hS; go_simp)
  (try simp only [Act.put, List.setIfInBounds_toArray, List.set_cons_zero, List.set_cons_succ])
  refine wq_take (.bool false) (by kernel_rfl) ?_ ?_
  · (intro w' hS; go_simp)
  (try simp only [Act.put, List.setIfInBounds_toArray, List.set_cons_zero, List.set_cons_succ])
  refine wq_nil ?_
  intro w' hS
  go_wp2
  go_ret
  exact ⟨rfl, hS.1.bel⟩
set_option maxHeartbeats 2000000 in
theorem found_no (h : RunAt E S s W) (o : Int) (j : Nat) (hj : j < 8) (sr f im : Int) (h37 : (o == 37) = false) (h38 : (o == 38) = false) : Calls Try.prog 76 #[.pointer (some ⟨E.R, 0, none⟩), .agg #[.int .i64 o, .int .i64 (j : Int), .int .i64 sr, .int .i64 f, .int .i64 im]] W fun e w' => e = .returned (.bool (false)) ∧ Below W.heap.size W w' := by
  obtain ⟨x, hx⟩ : ∃ x : Y.In, x = ⟨o, (j : Int), sr, f, im⟩ := ⟨_, rfl⟩
  have hk := fun W' (hb : Below W.heap.size W W') => (h.step hb).kind j hj
  generalize (s.r (j : Int)).kind = kd at hk ⊢
  have HX : Hid (FndC W ⟨o, (j : Int), sr, f, im⟩ E.R j kd (W.alloc (.cells #[.int .i64 o, .int .i64 (j : Int), .int .i64 sr, .int .i64 f, .int .i64 im] 64))) := Lib.hid ⟨Yq.boxS_new W ⟨o, (j : Int), sr, f, im⟩ _, hk _ (below_new _ _)⟩
  have hj0 : (0 : Int) ≤ (j : Int) := by omega
  have hj8 : (j : Int) < 8 := by omega
  clear h hk hx x
  go_enter Try.func76, Try.ntmps76
  go_upto_region 1 with fail
  generalize W.alloc (.cells #[.int .i64 o, .int .i64 (j : Int), .int .i64 sr, .int .i64 f, .int .i64 im] 64) = W1 at HX ⊢
  refine wq_region (C := FndC W ⟨o, (j : Int), sr, f, im⟩ E.R j kd) (by kernel_rfl) (⟨HX.out.1.call (drew_below _), HX.out.2⟩) ?_
  refine wq_take (.pointer (some ⟨W.heap.size, 0, none⟩)) (by kernel_rfl) ?_ ?_
  · (intro w' hS; go_simp)
  (try simp only [Act.put, List.setIfInBounds_toArray, List.set_cons_zero, List.set_cons_succ])
  refine wq_take (.int .i64 o) (by kernel_rfl) ?_ ?_
  · (intro w' hS; (obtain ⟨⟨c0, c1, c2, c3, c4⟩, ck⟩ := (And.intro hS.1.cells hS.2); go_simp))
  (try simp only [Act.put, List.setIfInBounds_toArray, List.set_cons_zero, List.set_cons_succ])
  refine wq_take (.bool false) (by kernel_rfl) ?_ ?_
  · (intro w' hS; go_simp)
  (try simp only [Act.put, List.setIfInBounds_toArray, List.set_cons_zero, List.set_cons_succ])
  refine wq_take (.bool false) (by kernel_rfl) ?_ ?_
  · (intro w' hS; go_simp)
  (try simp only [Act.put, List.setIfInBounds_toArray, List.set_cons_zero, List.set_cons_succ])
  refine wq_take (.pointer (some ⟨W.heap.size, 0, none⟩)) (by kernel_rfl) ?_ ?_
  · (intro w' hS; go_simp)
  (try simp only [Act.put, List.setIfInBounds_toArray, List.set_cons_zero, List.set_cons_succ])
  refine wq_take (.int .i64 o) (by kernel_rfl) ?_ ?_
  · (intro w' hS; (obtain ⟨⟨c0, c1, c2, c3, c4⟩, ck⟩ := (And.intro hS.1.cells hS.2); go_simp))
  (try simp only [Act.put, List.setIfInBounds_toArray, List.set_cons_zero, List.set_cons_succ])
  refine wq_take (.bool false) (by kernel_rfl) ?_ ?_
  · (intro w' hS; go_simp)
  (try simp only [Act.put, List.setIfInBounds_toArray, List.set_cons_zero, List.set_cons_succ])
  refine wq_take (.bool false) (by kernel_rfl) ?_ ?_
  · (intro w' hS; go_simp)
  (try simp only [Act.put, List.setIfInBounds_toArray, List.set_cons_zero, List.set_cons_succ])
  refine wq_take (.bool false) (by kernel_rfl) ?_ ?_
  · (intro w' hS; go_simp)
  (try simp only [Act.put, List.setIfInBounds_toArray, List.set_cons_zero, List.set_cons_succ])
  refine wq_pass (by kernel_rfl) ?_
  (try simp only [Act.put, List.setIfInBounds_toArray, List.set_cons_zero, List.set_cons_succ])
  refine wq_pass (by kernel_rfl) ?_
  (try simp only [Act.put, List.setIfInBounds_toArray, List.set_cons_zero, List.set_cons_succ])
  refine wq_pass (by kernel_rfl) ?_
  (try simp only [Act.put, List.setIfInBounds_toArray, List.set_cons_zero, List.set_cons_succ])
  refine wq_take (.bool false) (by kernel_rfl) ?_ ?_
  · (intro w' hS; go_simp)
  (try simp only [Act.put, List.setIfInBounds_toArray, List.set_cons_zero, List.set_cons_succ])
  refine wq_take (.bool false) (by kernel_rfl) ?_ ?_
  · (intro w' hS; go_simp)
  (try simp only [Act.put, List.setIfInBounds_toArray, List.set_cons_zero, List.set_cons_succ])
  refine wq_pass (by kernel_rfl) ?_
  (try simp only [Act.put, List.setIfInBounds_toArray, List.set_cons_zero, List.set_cons_succ])
  refine wq_pass (by kernel_rfl) ?_
  (try simp only [Act.put, List.setIfInBounds_toArray, List.set_cons_zero, List.set_cons_succ])
  refine wq_pass (by kernel_rfl) ?_
  (try simp only [Act.put, List.setIfInBounds_toArray, List.set_cons_zero, List.set_cons_succ])
  refine wq_pass (by kernel_rfl) ?_
  (try simp only [Act.put, List.setIfInBounds_toArray, List.set_cons_zero, List.set_cons_succ])
  refine wq_pass (by kernel_rfl) ?_
  (try simp only [Act.put, List.setIfInBounds_toArray, List.set_cons_zero, List.set_cons_succ])
  refine wq_pass (by kernel_rfl) ?_
  (try simp only [Act.put, List.setIfInBounds_toArray, List.set_cons_zero, List.set_cons_succ])
  refine wq_pass (by kernel_rfl) ?_
  (try simp only [Act.put, List.setIfInBounds_toArray, List.set_cons_zero, List.set_cons_succ])
  refine wq_pass (by kernel_rfl) ?_
  (try simp only [Act.put, List.setIfInBounds_toArray, List.set_cons_zero, List.set_cons_succ])
  refine wq_pass (by kernel_rfl) ?_
  (try simp only [Act.put, List.setIfInBounds_toArray, List.set_cons_zero, List.set_cons_succ])
  refine wq_take (.bool false) (by kernel_rfl) ?_ ?_
  · (intro w' hS; go_simp)
  (try simp only [Act.put, List.setIfInBounds_toArray, List.set_cons_zero, List.set_cons_succ])
  refine wq_take (.bool false) (by kernel_rfl) ?_ ?_
  · (intro w' hS; go_simp)
  (try simp only [Act.put, List.setIfInBounds_toArray, List.set_cons_zero, List.set_cons_succ])
  refine wq_nil ?_
  intro w' hS
  go_wp2
  go_ret
  exact ⟨rfl, hS.1.bel⟩
def foundF (s : V.St) (x : Y.In) : Bool := (x.op == 37 || x.op == 38) && (x.imm == 0) && isRef (s.r x.dst)
theorem found_any (h : RunAt E S s W) (x : Y.In) (hx : Y.Bd x) : Calls Try.prog 76 #[.pointer (some ⟨E.R, 0, none⟩), .agg #[.int .i64 x.op, .int .i64 x.dst, .int .i64 x.src, .int .i64 x.off, .int .i64 x.imm]] W fun e w' => e = .returned (.bool (foundF s x)) ∧ Below W.heap.size W w' := by
  obtain ⟨o, d, sr, f, im⟩ := x
  have h1 : 0 ≤ d ∧ d ≤ 7 := hx.dst
  obtain ⟨j, rfl⟩ : ∃ j : Nat, d = (j : Int) := ⟨d.toNat, by omega⟩
  have hj : j < 8 := by omega
  unfold foundF
  show Calls _ _ _ _ (fun e w' => e = .returned (.bool ((o == 37 || o == 38) && (im == 0) && isRef (s.r (j : Int)))) ∧ _)
  cases h37 : (o == 37) with
  | true =>
    cases him : (im == 0) with
    | true => exact (found_37y h o j hj sr f im h37 him).mono fun e w' hh => ⟨by rw [hh.1, kind_ref]; rfl, hh.2⟩
    | false => exact (found_37n h o j hj sr f im h37 him).mono fun e w' hh => ⟨by rw [hh.1]; rfl, hh.2⟩
  | false =>
    cases h38 : (o == 38) with
    | true =>
      cases him : (im == 0) with
      | true => exact (found_38y h o j hj sr f im h37 h38 him).mono fun e w' hh => ⟨by rw [hh.1, kind_ref]; rfl, hh.2⟩
      | false => exact (found_38n h o j hj sr f im h37 h38 him).mono fun e w' hh => ⟨by rw [hh.1]; rfl, hh.2⟩
    | false => exact (found_no h o j hj sr f im h37 h38).mono fun e w' hh => ⟨by rw [hh.1]; rfl, hh.2⟩
end
end Go.Proofs.Ythngbakbiocadaa

/-
  Jumps.
-/
namespace Go.Proofs.Ythngbakbiocadaa
set_option maxRecDepth 100000
open Go.ChangeShapes Go.WideShapes Go.ChangeAt Go.RowKit Go.Maps
open V
section
variable {E : Ev} {S : Nat → Prop} {s : V.St} {W : World}
def holdsF (o a b : Int) : Bool := if o = 33 ∨ o = 37 then a == b else if o = 34 ∨ o = 38 then a != b else if o = 35 ∨ o = 39 then decide (a < b) else decide (b ≤ a)
def boolV (b : Bool) : Value := .bool b
set_option maxHeartbeats 2000000 in
theorem jumps_32 (d sr f im : Int)  : Calls Try.prog 70 #[.pointer (some ⟨E.R, 0, none⟩), .agg #[.int .i64 32, .int .i64 d, .int .i64 sr, .int .i64 f, .int .i64 im]] W fun e w' => e = .returned (.bool true) ∧ Below W.heap.size W w' := by
  have HX := Lib.hid (Yq.boxS_new W ⟨32, d, sr, f, im⟩ 64)
  go_enter Try.func70, Try.ntmps70
  go_upto_region 1 with fail
  generalize W.alloc (.cells #[.int .i64 32, .int .i64 d, .int .i64 sr, .int .i64 f, .int .i64 im] 64) = W1 at HX ⊢
  obtain ⟨c0, c1, c2, c3, c4⟩ := HX.out.cells
  go_wp2
  go_ret
  exact ⟨rfl, HX.out.bel⟩
set_option maxHeartbeats 2000000 in
theorem jumps_found (o : Int) (d sr f im : Int) (h32 : (o == 32) = false) (hf : ∀ W', Below W.heap.size W W' → Calls Try.prog 76 #[.pointer (some ⟨E.R, 0, none⟩), .agg #[.int .i64 o, .int .i64 d, .int .i64 sr, .int .i64 f, .int .i64 im]] W' fun e w' => e = .returned (.bool true) ∧ Below W'.heap.size W' w') : Calls Try.prog 70 #[.pointer (some ⟨E.R, 0, none⟩), .agg #[.int .i64 o, .int .i64 d, .int .i64 sr, .int .i64 f, .int .i64 im]] W fun e w' => e = .returned (.bool (o == 38)) ∧ Below W.heap.size W w' := by
  have HX := Lib.hid (Yq.boxS_new W ⟨o, d, sr, f, im⟩ 64)
  have HF := Lib.hid hf
  clear hf
  go_enter Try.func70, Try.ntmps70
  go_upto_region 1 with fail
  generalize W.alloc (.cells #[.int .i64 o, .int .i64 d, .int .i64 sr, .int .i64 f, .int .i64 im] 64) = W1 at HX ⊢
  obtain ⟨c0, c1, c2, c3, c4⟩ := HX.out.cells
  go_wp2_with (go_at_call 76; (with_reducible refine (HF.out _ HX.out.bel).mono ?_); rintro e w2 ⟨rfl, hb⟩; have HX2 := Lib.hid (HX.out.call hb); clear hb HX c0 c1 c2 c3 c4; obtain ⟨c0, c1, c2, c3, c4⟩ := HX2.out.cells)
  go_ret
  exact ⟨rfl, HX2.out.bel⟩
set_option maxHeartbeats 2000000 in
theorem jumps_err (o : Int) (d sr f im : Int) {y : Nat} (h32 : (o == 32) = false) (hf : ∀ W', Below W.heap.size W W' → Calls Try.prog 76 #[.pointer (some ⟨E.R, 0, none⟩), .agg #[.int .i64 o, .int .i64 d, .int .i64 sr, .int .i64 f, .int .i64 im]] W' fun e w' => e = .returned (.bool false) ∧ Below W'.heap.size W' w') (hop : ∀ W', Below W.heap.size W W' → Calls Try.prog 71 #[.pointer (some ⟨E.R, 0, none⟩), .agg #[.int .i64 o, .int .i64 d, .int .i64 sr, .int .i64 f, .int .i64 im]] W' fun e w' => e = whyE y ∧ Below W'.heap.size W' w') : Calls Try.prog 70 #[.pointer (some ⟨E.R, 0, none⟩), .agg #[.int .i64 o, .int .i64 d, .int .i64 sr, .int .i64 f, .int .i64 im]] W fun e w' => e = whyE y ∧ Below W.heap.size W w' := by
  have HX := Lib.hid (Yq.boxS_new W ⟨o, d, sr, f, im⟩ 64)
  have HF := Lib.hid hf
  have HP := Lib.hid hop
  clear hf hop
  go_enter Try.func70, Try.ntmps70
  go_upto_region 1 with fail
  generalize W.alloc (.cells #[.int .i64 o, .int .i64 d, .int .i64 sr, .int .i64 f, .int .i64 im] 64) = W1 at HX ⊢
  obtain ⟨c0, c1, c2, c3, c4⟩ := HX.out.cells
  go_wp2_with (first | (go_at_call 76; (with_reducible refine (HF.out _ HX.out.bel).mono ?_); rintro e w2 ⟨rfl, hb⟩; have HX2 := Lib.hid (HX.out.call hb); clear hb HX c0 c1 c2 c3 c4; obtain ⟨c0, c1, c2, c3, c4⟩ := HX2.out.cells) | (go_at_call 71; (with_reducible refine (HP.out _ HX2.out.bel).mono ?_); rintro e w3 ⟨rfl, hb⟩; exact ⟨rfl, rfl, HX2.out.bel.trans (hb.mono HX2.out.bel.size)⟩))
set_option maxHeartbeats 2000000 in
theorem jumps_ok33 (d sr f im : Int) (a b : Int) (hf : ∀ W', Below W.heap.size W W' → Calls Try.prog 76 #[.pointer (some ⟨E.R, 0, none⟩), .agg #[.int .i64 33, .int .i64 d, .int .i64 sr, .int .i64 f, .int .i64 im]] W' fun e w' => e = .returned (.bool false) ∧ Below W'.heap.size W' w') (hop : ∀ W', Below W.heap.size W W' → Calls Try.prog 71 #[.pointer (some ⟨E.R, 0, none⟩), .agg #[.int .i64 33, .int .i64 d, .int .i64 sr, .int .i64 f, .int .i64 im]] W' fun e w' => e = .returned (.tuple #[.int .i64 a, .int .i64 b]) ∧ Below W'.heap.size W' w') : Calls Try.prog 70 #[.pointer (some ⟨E.R, 0, none⟩), .agg #[.int .i64 33, .int .i64 d, .int .i64 sr, .int .i64 f, .int .i64 im]] W fun e w' => e = .returned (.bool (a == b)) ∧ Below W.heap.size W w' := by
  have HX := Lib.hid (Yq.boxS_new W ⟨33, d, sr, f, im⟩ 64)
  have HF := Lib.hid hf
  have HP := Lib.hid hop
  clear hf hop
  go_enter Try.func70, Try.ntmps70
  go_upto_region 1 with fail
  generalize W.alloc (.cells #[.int .i64 33, .int .i64 d, .int .i64 sr, .int .i64 f, .int .i64 im] 64) = W1 at HX ⊢
  obtain ⟨c0, c1, c2, c3, c4⟩ := HX.out.cells
  go_wp2_with (first | (go_at_call 76; (with_reducible refine (HF.out _ HX.out.bel).mono ?_); rintro e w2 ⟨rfl, hb⟩; have HX2 := Lib.hid (HX.out.call hb); clear hb HX c0 c1 c2 c3 c4; obtain ⟨c0, c1, c2, c3, c4⟩ := HX2.out.cells) | (go_at_call 71; (with_reducible refine (HP.out _ HX2.out.bel).mono ?_); rintro e w3 ⟨rfl, hb⟩; have HX3 := Lib.hid (HX2.out.call hb); clear hb c0 c1 c2 c3 c4; obtain ⟨c0, c1, c2, c3, c4⟩ := HX3.out.cells))
  go_ret
  exact ⟨rfl, HX3.out.bel⟩
set_option maxHeartbeats 2000000 in
theorem jumps_ok34 (d sr f im : Int) (a b : Int) (hf : ∀ W', Below W.heap.size W W' → Calls Try.prog 76 #[.pointer (some ⟨E.R, 0, none⟩), .agg #[.int .i64 34, .int .i64 d, .int .i64 sr, .int .i64 f, .int .i64 im]] W' fun e w' => e = .returned (.bool false) ∧ Below W'.heap.size W' w') (hop : ∀ W', Below W.heap.size W W' → Calls Try.prog 71 #[.pointer (some ⟨E.R, 0, none⟩), .agg #[.int .i64 34, .int .i64 d, .int .i64 sr, .int .i64 f, .int .i64 im]] W' fun e w' => e = .returned (.tuple #[.int .i64 a, .int .i64 b]) ∧ Below W'.heap.size W' w') : Calls Try.prog 70 #[.pointer (some ⟨E.R, 0, none⟩), .agg #[.int .i64 34, .int .i64 d, .int .i64 sr, .int .i64 f, .int .i64 im]] W fun e w' => e = .returned (.bool (a != b)) ∧ Below W.heap.size W w' := by
  have HX := Lib.hid (Yq.boxS_new W ⟨34, d, sr, f, im⟩ 64)
  have HF := Lib.hid hf
  have HP := Lib.hid hop
  clear hf hop
  go_enter Try.func70, Try.ntmps70
  go_upto_region 1 with fail
  generalize W.alloc (.cells #[.int .i64 34, .int .i64 d, .int .i64 sr, .int .i64 f, .int .i64 im] 64) = W1 at HX ⊢
  obtain ⟨c0, c1, c2, c3, c4⟩ := HX.out.cells
  go_wp2_with (first | (go_at_call 76; (with_reducible refine (HF.out _ HX.out.bel).mono ?_); rintro e w2 ⟨rfl, hb⟩; have HX2 := Lib.hid (HX.out.call hb); clear hb HX c0 c1 c2 c3 c4; obtain ⟨c0, c1, c2, c3, c4⟩ := HX2.out.cells) | (go_at_call 71; (with_reducible refine (HP.out _ HX2.out.bel).mono ?_); rintro e w3 ⟨rfl, hb⟩; have HX3 := Lib.hid (HX2.out.call hb); clear hb c0 c1 c2 c3 c4; obtain ⟨c0, c1, c2, c3, c4⟩ := HX3.out.cells))
  go_ret
  exact ⟨rfl, HX3.out.bel⟩
set_option maxHeartbeats 2000000 in
theorem jumps_ok35 (d sr f im : Int) (a b : Int) (hf : ∀ W', Below W.heap.size W W' → Calls Try.prog 76 #[.pointer (some ⟨E.R, 0, none⟩), .agg #[.int .i64 35, .int .i64 d, .int .i64 sr, .int .i64 f, .int .i64 im]] W' fun e w' => e = .returned (.bool false) ∧ Below W'.heap.size W' w') (hop : ∀ W', Below W.heap.size W W' → Calls Try.prog 71 #[.pointer (some ⟨E.R, 0, none⟩), .agg #[.int .i64 35, .int .i64 d, .int .i64 sr, .int .i64 f, .int .i64 im]] W' fun e w' => e = .returned (.tuple #[.int .i64 a, .int .i64 b]) ∧ Below W'.heap.size W' w') : Calls Try.prog 70 #[.pointer (some ⟨E.R, 0, none⟩), .agg #[.int .i64 35, .int .i64 d, .int .i64 sr, .int .i64 f, .int .i64 im]] W fun e w' => e = .returned (.bool (decide (a < b))) ∧ Below W.heap.size W w' := by
  have HX := Lib.hid (Yq.boxS_new W ⟨35, d, sr, f, im⟩ 64)
  have HF := Lib.hid hf
  have HP := Lib.hid hop
  clear hf hop
  go_enter Try.func70, Try.ntmps70
  go_upto_region 1 with fail
  generalize W.alloc (.cells #[.int .i64 35, .int .i64 d, .int .i64 sr, .int .i64 f, .int .i64 im] 64) = W1 at HX ⊢
  obtain ⟨c0, c1, c2, c3, c4⟩ := HX.out.cells
  go_wp2_with (first | (go_at_call 76; (with_reducible refine (HF.out _ HX.out.bel).mono ?_); rintro e w2 ⟨rfl, hb⟩; have HX2 := Lib.hid (HX.out.call hb); clear hb HX c0 c1 c2 c3 c4; obtain ⟨c0, c1, c2, c3, c4⟩ := HX2.out.cells) | (go_at_call 71; (with_reducible refine (HP.out _ HX2.out.bel).mono ?_); rintro e w3 ⟨rfl, hb⟩; have HX3 := Lib.hid (HX2.out.call hb); clear hb c0 c1 c2 c3 c4; obtain ⟨c0, c1, c2, c3, c4⟩ := HX3.out.cells))
  go_ret
  exact ⟨rfl, HX3.out.bel⟩
set_option maxHeartbeats 2000000 in
theorem jumps_ok36 (d sr f im : Int) (a b : Int) (hf : ∀ W', Below W.heap.size W W' → Calls Try.prog 76 #[.pointer (some ⟨E.R, 0, none⟩), .agg #[.int .i64 36, .int .i64 d, .int .i64 sr, .int .i64 f, .int .i64 im]] W' fun e w' => e = .returned (.bool false) ∧ Below W'.heap.size W' w') (hop : ∀ W', Below W.heap.size W W' → Calls Try.prog 71 #[.pointer (some ⟨E.R, 0, none⟩), .agg #[.int .i64 36, .int .i64 d, .int .i64 sr, .int .i64 f, .int .i64 im]] W' fun e w' => e = .returned (.tuple #[.int .i64 a, .int .i64 b]) ∧ Below W'.heap.size W' w') : Calls Try.prog 70 #[.pointer (some ⟨E.R, 0, none⟩), .agg #[.int .i64 36, .int .i64 d, .int .i64 sr, .int .i64 f, .int .i64 im]] W fun e w' => e = .returned (.bool (decide (b ≤ a))) ∧ Below W.heap.size W w' := by
  have HX := Lib.hid (Yq.boxS_new W ⟨36, d, sr, f, im⟩ 64)
  have HF := Lib.hid hf
  have HP := Lib.hid hop
  clear hf hop
  go_enter Try.func70, Try.ntmps70
  go_upto_region 1 with fail
  generalize W.alloc (.cells #[.int .i64 36, .int .i64 d, .int .i64 sr, .int .i64 f, .int .i64 im] 64) = W1 at HX ⊢
  obtain ⟨c0, c1, c2, c3, c4⟩ := HX.out.cells
  go_wp2_with (first | (go_at_call 76; (with_reducible refine (HF.out _ HX.out.bel).mono ?_); rintro e w2 ⟨rfl, hb⟩; have HX2 := Lib.hid (HX.out.call hb); clear hb HX c0 c1 c2 c3 c4; obtain ⟨c0, c1, c2, c3, c4⟩ := HX2.out.cells) | (go_at_call 71; (with_reducible refine (HP.out _ HX2.out.bel).mono ?_); rintro e w3 ⟨rfl, hb⟩; have HX3 := Lib.hid (HX2.out.call hb); clear hb c0 c1 c2 c3 c4; obtain ⟨c0, c1, c2, c3, c4⟩ := HX3.out.cells))
  go_ret
  exact ⟨rfl, HX3.out.bel⟩
set_option maxHeartbeats 2000000 in
theorem jumps_ok37 (d sr f im : Int) (a b : Int) (hf : ∀ W', Below W.heap.size W W' → Calls Try.prog 76 #[.pointer (some ⟨E.R, 0, none⟩), .agg #[.int .i64 37, .int .i64 d, .int .i64 sr, .int .i64 f, .int .i64 im]] W' fun e w' => e = .returned (.bool false) ∧ Below W'.heap.size W' w') (hop : ∀ W', Below W.heap.size W W' → Calls Try.prog 71 #[.pointer (some ⟨E.R, 0, none⟩), .agg #[.int .i64 37, .int .i64 d, .int .i64 sr, .int .i64 f, .int .i64 im]] W' fun e w' => e = .returned (.tuple #[.int .i64 a, .int .i64 b]) ∧ Below W'.heap.size W' w') : Calls Try.prog 70 #[.pointer (some ⟨E.R, 0, none⟩), .agg #[.int .i64 37, .int .i64 d, .int .i64 sr, .int .i64 f, .int .i64 im]] W fun e w' => e = .returned (.bool (a == b)) ∧ Below W.heap.size W w' := by
  have HX := Lib.hid (Yq.boxS_new W ⟨37, d, sr, f, im⟩ 64)
  have HF := Lib.hid hf
  have HP := Lib.hid hop
  clear hf hop
  go_enter Try.func70, Try.ntmps70
  go_upto_region 1 with fail
  generalize W.alloc (.cells #[.int .i64 37, .int .i64 d, .int .i64 sr, .int .i64 f, .int .i64 im] 64) = W1 at HX ⊢
  obtain ⟨c0, c1, c2, c3, c4⟩ := HX.out.cells
  go_wp2_with (first | (go_at_call 76; (with_reducible refine (HF.out _ HX.out.bel).mono ?_); rintro e w2 ⟨rfl, hb⟩; have HX2 := Lib.hid (HX.out.call hb); clear hb HX c0 c1 c2 c3 c4; obtain ⟨c0, c1, c2, c3, c4⟩ := HX2.out.cells) | (go_at_call 71; (with_reducible refine (HP.out _ HX2.out.bel).mono ?_); rintro e w3 ⟨rfl, hb⟩; have HX3 := Lib.hid (HX2.out.call hb); clear hb c0 c1 c2 c3 c4; obtain ⟨c0, c1, c2, c3, c4⟩ := HX3.out.cells))
  go_ret
  exact ⟨rfl, HX3.out.bel⟩
set_option maxHeartbeats 2000000 in
theorem jumps_ok38 (d sr f im : Int) (a b : Int) (hf : ∀ W', Below W.heap.size W W' → Calls Try.prog 76 #[.pointer (some ⟨E.R, 0, none⟩), .agg #[.int .i64 38, .int .i64 d, .int .i64 sr, .int .i64 f, .int .i64 im]] W' fun e w' => e = .returned (.bool false) ∧ Below W'.heap.size W' w') (hop : ∀ W', Below W.heap.size W W' → Calls Try.prog 71 #[.pointer (some ⟨E.R, 0, none⟩), .agg #[.int .i64 38, .int .i64 d, .int .i64 sr, .int .i64 f, .int .i64 im]] W' fun e w' => e = .returned (.tuple #[.int .i64 a, .int .i64 b]) ∧ Below W'.heap.size W' w') : Calls Try.prog 70 #[.pointer (some ⟨E.R, 0, none⟩), .agg #[.int .i64 38, .int .i64 d, .int .i64 sr, .int .i64 f, .int .i64 im]] W fun e w' => e = .returned (.bool (a != b)) ∧ Below W.heap.size W w' := by
  have HX := Lib.hid (Yq.boxS_new W ⟨38, d, sr, f, im⟩ 64)
  have HF := Lib.hid hf
  have HP := Lib.hid hop
  clear hf hop
  go_enter Try.func70, Try.ntmps70
  go_upto_region 1 with fail
  generalize W.alloc (.cells #[.int .i64 38, .int .i64 d, .int .i64 sr, .int .i64 f, .int .i64 im] 64) = W1 at HX ⊢
  obtain ⟨c0, c1, c2, c3, c4⟩ := HX.out.cells
  go_wp2_with (first | (go_at_call 76; (with_reducible refine (HF.out _ HX.out.bel).mono ?_); rintro e w2 ⟨rfl, hb⟩; have HX2 := Lib.hid (HX.out.call hb); clear hb HX c0 c1 c2 c3 c4; obtain ⟨c0, c1, c2, c3, c4⟩ := HX2.out.cells) | (go_at_call 71; (with_reducible refine (HP.out _ HX2.out.bel).mono ?_); rintro e w3 ⟨rfl, hb⟩; have HX3 := Lib.hid (HX2.out.call hb); clear hb c0 c1 c2 c3 c4; obtain ⟨c0, c1, c2, c3, c4⟩ := HX3.out.cells))
  go_ret
  exact ⟨rfl, HX3.out.bel⟩
set_option maxHeartbeats 2000000 in
theorem jumps_ok39 (d sr f im : Int) (a b : Int) (hf : ∀ W', Below W.heap.size W W' → Calls Try.prog 76 #[.pointer (some ⟨E.R, 0, none⟩), .agg #[.int .i64 39, .int .i64 d, .int .i64 sr, .int .i64 f, .int .i64 im]] W' fun e w' => e = .returned (.bool false) ∧ Below W'.heap.size W' w') (hop : ∀ W', Below W.heap.size W W' → Calls Try.prog 71 #[.pointer (some ⟨E.R, 0, none⟩), .agg #[.int .i64 39, .int .i64 d, .int .i64 sr, .int .i64 f, .int .i64 im]] W' fun e w' => e = .returned (.tuple #[.int .i64 a, .int .i64 b]) ∧ Below W'.heap.size W' w') : Calls Try.prog 70 #[.pointer (some ⟨E.R, 0, none⟩), .agg #[.int .i64 39, .int .i64 d, .int .i64 sr, .int .i64 f, .int .i64 im]] W fun e w' => e = .returned (.bool (decide (a < b))) ∧ Below W.heap.size W w' := by
  have HX := Lib.hid (Yq.boxS_new W ⟨39, d, sr, f, im⟩ 64)
  have HF := Lib.hid hf
  have HP := Lib.hid hop
  clear hf hop
  go_enter Try.func70, Try.ntmps70
  go_upto_region 1 with fail
  generalize W.alloc (.cells #[.int .i64 39, .int .i64 d, .int .i64 sr, .int .i64 f, .int .i64 im] 64) = W1 at HX ⊢
  obtain ⟨c0, c1, c2, c3, c4⟩ := HX.out.cells
  go_wp2_with (first | (go_at_call 76; (with_reducible refine (HF.out _ HX.out.bel).mono ?_); rintro e w2 ⟨rfl, hb⟩; have HX2 := Lib.hid (HX.out.call hb); clear hb HX c0 c1 c2 c3 c4; obtain ⟨c0, c1, c2, c3, c4⟩ := HX2.out.cells) | (go_at_call 71; (with_reducible refine (HP.out _ HX2.out.bel).mono ?_); rintro e w3 ⟨rfl, hb⟩; have HX3 := Lib.hid (HX2.out.call hb); clear hb c0 c1 c2 c3 c4; obtain ⟨c0, c1, c2, c3, c4⟩ := HX3.out.cells))
  go_ret
  exact ⟨rfl, HX3.out.bel⟩
set_option maxHeartbeats 2000000 in
theorem jumps_ok40 (d sr f im : Int) (a b : Int) (hf : ∀ W', Below W.heap.size W W' → Calls Try.prog 76 #[.pointer (some ⟨E.R, 0, none⟩), .agg #[.int .i64 40, .int .i64 d, .int .i64 sr, .int .i64 f, .int .i64 im]] W' fun e w' => e = .returned (.bool false) ∧ Below W'.heap.size W' w') (hop : ∀ W', Below W.heap.size W W' → Calls Try.prog 71 #[.pointer (some ⟨E.R, 0, none⟩), .agg #[.int .i64 40, .int .i64 d, .int .i64 sr, .int .i64 f, .int .i64 im]] W' fun e w' => e = .returned (.tuple #[.int .i64 a, .int .i64 b]) ∧ Below W'.heap.size W' w') : Calls Try.prog 70 #[.pointer (some ⟨E.R, 0, none⟩), .agg #[.int .i64 40, .int .i64 d, .int .i64 sr, .int .i64 f, .int .i64 im]] W fun e w' => e = .returned (.bool (decide (b ≤ a))) ∧ Below W.heap.size W w' := by
  have HX := Lib.hid (Yq.boxS_new W ⟨40, d, sr, f, im⟩ 64)
  have HF := Lib.hid hf
  have HP := Lib.hid hop
  clear hf hop
  go_enter Try.func70, Try.ntmps70
  go_upto_region 1 with fail
  generalize W.alloc (.cells #[.int .i64 40, .int .i64 d, .int .i64 sr, .int .i64 f, .int .i64 im] 64) = W1 at HX ⊢
  obtain ⟨c0, c1, c2, c3, c4⟩ := HX.out.cells
  go_wp2_with (first | (go_at_call 76; (with_reducible refine (HF.out _ HX.out.bel).mono ?_); rintro e w2 ⟨rfl, hb⟩; have HX2 := Lib.hid (HX.out.call hb); clear hb HX c0 c1 c2 c3 c4; obtain ⟨c0, c1, c2, c3, c4⟩ := HX2.out.cells) | (go_at_call 71; (with_reducible refine (HP.out _ HX2.out.bel).mono ?_); rintro e w3 ⟨rfl, hb⟩; have HX3 := Lib.hid (HX2.out.call hb); clear hb c0 c1 c2 c3 c4; obtain ⟨c0, c1, c2, c3, c4⟩ := HX3.out.cells))
  go_ret
  exact ⟨rfl, HX3.out.bel⟩
def jmpF (s : V.St) (x : Y.In) : Except Nat Bool :=
  if x.op = 32 then .ok true else if foundF s x then .ok (x.op == 38) else match opsF s x with
    | .error y => .error y
    | .ok (a, b) => .ok (holdsF x.op a b)
theorem jumps_any (h : RunAt E S s W) (x : Y.In) (hx : Y.Bd x) (ho : 32 ≤ x.op ∧ x.op ≤ 40) : Calls Try.prog 70 #[.pointer (some ⟨E.R, 0, none⟩), .agg #[.int .i64 x.op, .int .i64 x.dst, .int .i64 x.src, .int .i64 x.off, .int .i64 x.imm]] W (Rd W boolV (jmpF s x)) := by
  have hf := fun W' (hb : Below W.heap.size W W') => found_any (h.step hb) x hx
  have hop := fun W' (hb : Below W.heap.size W W') => operands_any (h.step hb) x hx
  unfold jmpF
  generalize foundF s x = fb at hf ⊢
  generalize opsF s x = X at hop ⊢
  obtain ⟨o, d, sr, f, im⟩ := x
  have ho' : 32 ≤ o ∧ o ≤ 40 := ho
  by_cases h32 : o = 32
  · subst h32
    exact (jumps_32 d sr f im).mono fun e w' hh => ⟨by rw [hh.1]; rfl, hh.2⟩
  · have h32' : (o == 32) = false := by simpa using h32
    show Calls _ _ _ _ (Rd W boolV (if o = 32 then _ else _))
    rw [if_neg h32]
    cases fb with
    | true => exact (jumps_found o d sr f im h32' hf).mono fun e w' hh => ⟨by rw [hh.1]; rfl, hh.2⟩
    | false =>
      rw [if_neg (by decide)]
      cases X with
      | error y => exact (jumps_err o d sr f im h32' hf hop).mono fun e w' hh => ⟨by rw [hh.1]; rfl, hh.2⟩
      | ok p =>
        obtain ⟨a, b⟩ := p
        have hc : o = 33 ∨ o = 34 ∨ o = 35 ∨ o = 36 ∨ o = 37 ∨ o = 38 ∨ o = 39 ∨ o = 40 := by omega
        rcases hc with rfl | rfl | rfl | rfl | rfl | rfl | rfl | rfl
        · exact (jumps_ok33 d sr f im a b hf hop).mono fun e w' hh => ⟨by rw [hh.1]; rfl, hh.2⟩
        · exact (jumps_ok34 d sr f im a b hf hop).mono fun e w' hh => ⟨by rw [hh.1]; rfl, hh.2⟩
        · exact (jumps_ok35 d sr f im a b hf hop).mono fun e w' hh => ⟨by rw [hh.1]; rfl, hh.2⟩
        · exact (jumps_ok36 d sr f im a b hf hop).mono fun e w' hh => ⟨by rw [hh.1]; rfl, hh.2⟩
        · exact (jumps_ok37 d sr f im a b hf hop).mono fun e w' hh => ⟨by rw [hh.1]; rfl, hh.2⟩
        · exact (jumps_ok38 d sr f im a b hf hop).mono fun e w' hh => ⟨by rw [hh.1]; rfl, hh.2⟩
        · exact (jumps_ok39 d sr f im a b hf hop).mono fun e w' hh => ⟨by rw [hh.1]; rfl, hh.2⟩
        · exact (jumps_ok40 d sr f im a b hf hop).mono fun e w' hh => ⟨by rw [hh.1]; rfl, hh.2⟩
end
end Go.Proofs.Ythngbakbiocadaa
