/-
  Proved: InodeRights returns true for all inodes and counts of pages and inodes: whether any inode is right in any plan is what the document says; one that is comes back from its half.
  Conditions: none beside the statement's own.
-/
import Derived.Test.YtchlhnpnenafnaaIawake
import Derived.Test.YtchlhnpnenafnaaIright
import Derived.Test.YtchlhnpnenafnaaIrright
namespace Go.Proofs.Ytchlhnpnenafnaa.inodeRights
open Go.ChangeShapes Go.WideShapes Go.ChangeAt Go.RowKit
open Ii (Ino)

/-- what stands in memory: the inode, the plan -/
structure RgS (w0 : World) (x : Ino) (D : Nat) (p i : Int) (W : World) : Prop where
  ino : RowAt W w0.heap.size (inoL x)
  plan : RowAt W D (planL p i)
  below : Below w0.heap.size w0 W
theorem RgS.call {w0 : World} {x : Ino} {D : Nat} {p i : Int} {W W' : World} (k : RgS w0 x D p i W) (hb : Below W.heap.size W W') : RgS w0 x D p i W' :=
  ⟨RowAt.step k.ino hb, RowAt.step k.plan hb, k.below.trans (hb.mono k.below.size)⟩

set_option maxRecDepth 100000 in
set_option maxHeartbeats 4000000 in
theorem walk_none (x : Ino) (p i : Int) (w : World) (h : Pl.rightB p i = false) :
    Calls Try.prog 4 #[inoV x, .int .i64 p, .int .i64 i] w fun e w' => e = .returned (.bool true) ∧ Below w.heap.size w w' := by
  have HW : Hid (∀ w, Calls Try.prog 11 #[.int .i64 p, .int .i64 i] w fun e w' => e = .returned (.tuple #[.agg (rplanL 0 0 0).toArray, .bool false]) ∧ Below w.heap.size w w') := Lib.hid (fun w => refNew_no p i w h)
  have HX : Hid True := Lib.hid trivial
  have HV : Hid (∀ w, Calls Try.prog 13 #[.agg (inoL x).toArray, .agg (planL p i).toArray] w fun e w' => e = .returned (.bool false) ∧ Below w.heap.size w w') := Lib.hid (fun w => by
    have := iright_any p i x w
    unfold Ii.rightI at this
    rw [h, Bool.false_and] at this
    exact this)
  have hr0 := rowAt_new w (inoL x) 26
  have hb0 : Below w.heap.size w (w.alloc (.cells (inoL x).toArray 26)) := (Below.refl _ _).alloc (Nat.le_refl _) _
  clear h
  unfold inoV
  go_enter Try.func4, Try.ntmps4
  go_wp2_with fail
  generalize hw : w.alloc _ = w0
  have R0 : Hid (RowAt w0 w.heap.size (inoL x) ∧ Below w.heap.size w w0) := Lib.hid (by rw [← hw]; exact ⟨hr0, hb0⟩)
  clear hw hr0 hb0
  refine (awake_any _).mono ?_
  rintro e w1 ⟨rfl, hb⟩
  have S1 : Hid (RowAt w1 w.heap.size (inoL x) ∧ Below w.heap.size w w1) := Lib.hid ⟨RowAt.step R0.out.1 hb, R0.out.2.trans (hb.mono R0.out.2.size)⟩
  clear hb R0
  go_wp2_with (first
    | ((with_reducible refine wpList_store_newrow planT (vs := planL p i) rfl (planL_one _ _) rfl (.tmp 7) (.tmp 15) rfl rfl ?_ ?_ ?_); (exact rfl); (exact rfl); intro W3 hP hb hz; have S : Hid (RgS w x w1.heap.size p i W3) := Lib.hid ⟨RowAt.step S1.out.1 hb, hP, S1.out.2.trans (hb.mono S1.out.2.size)⟩; clear hP hb hz S1; generalize w1.heap.size = D at S ⊢)
    | (go_at_call 11; (with_reducible refine (HW.out _).mono ?_); rintro e w4 ⟨rfl, hb⟩; replace S := Lib.hid (S.out.call hb); clear hb)
    | ((with_reducible refine wpList_store_newrow rplanT (vs := rplanL 0 0 0) rfl (rplanL_one _ _ _) rfl (.tmp 8) (.tmp 20) rfl rfl ?_ ?_ ?_); (exact rfl); (exact rfl); intro W5 hP hb hz; replace S := Lib.hid (S.out.call hb); have F := Lib.hid hP; clear hP hb hz; generalize w4.heap.size = E at F ⊢; have c0 := S.out.ino.cell 0 _ rfl; have c1 := S.out.ino.cell 1 _ rfl; have c2 := S.out.ino.cell 2 _ rfl; have c3 := S.out.ino.cell 3 _ rfl; have c4 := S.out.ino.cell 4 _ rfl; have c5 := S.out.ino.cell 5 _ rfl; have c6 := S.out.ino.cell 6 _ rfl; have c7 := S.out.ino.cell 7 _ rfl; have c8 := S.out.ino.cell 8 _ rfl; have c9 := S.out.ino.cell 9 _ rfl; have c10 := S.out.ino.cell 10 _ rfl; have f0 := F.out.cell 0 _ rfl; have f1 := F.out.cell 1 _ rfl; have f2 := F.out.cell 2 _ rfl)
    | (with_reducible refine wpList_load_row inoT S.out.ino rfl rfl (.tmp 3) rfl rfl ?_)
    | (with_reducible refine wpList_load_row planT S.out.plan rfl rfl (.tmp 7) rfl rfl ?_)
    | (go_at_call 13; (with_reducible refine (HV.out _).mono ?_); rintro e w7 ⟨rfl, hb⟩; (try clear c0 c1 c2 c3 c4 c5 c6 c7 c8 c9 c10 f0 f1 f2); replace S := Lib.hid (S.out.call hb); clear hb))
  go_quiet (fail)
  go_wp2
  go_ret
  exact ⟨rfl, (S.out.call (below_drewN _ _ _)).below⟩

set_option maxRecDepth 100000 in
set_option maxHeartbeats 4000000 in
theorem walk_false (x : Ino) (p i : Int) (w : World) (h : Pl.rightB p i = true) (hb : Ii.inB p i x = false) :
    Calls Try.prog 4 #[inoV x, .int .i64 p, .int .i64 i] w fun e w' => e = .returned (.bool true) ∧ Below w.heap.size w w' := by
  have HW : Hid (∀ w, Calls Try.prog 11 #[.int .i64 p, .int .i64 i] w fun e w' => e = .returned (.tuple #[.agg (rplanL p i (Pl.dataN i)).toArray, .bool true]) ∧ Below w.heap.size w w') := Lib.hid (fun w => refNew_yes p i w h)
  have HX : Hid (∀ w, Calls Try.prog 12 #[.agg #[.int .i64 x.k, .int .i64 x.p, .int .i64 x.u, .int .i64 x.l, .int .i64 x.s, .int .i64 x.a, .int .i64 x.b, .int .i64 x.c, .int .i64 x.d, .int .i64 x.e, .int .i64 x.f], .agg #[.int .i64 p, .int .i64 i, .int .i64 (Pl.dataN i)]] w fun e w' => e = .returned (.bool false) ∧ Below w.heap.size w w') := Lib.hid (fun w => by
    have := rright_any p i x w
    rw [hb] at this
    exact this)
  have HV : Hid (∀ w, Calls Try.prog 13 #[.agg (inoL x).toArray, .agg (planL p i).toArray] w fun e w' => e = .returned (.bool false) ∧ Below w.heap.size w w') := Lib.hid (fun w => by
    have := iright_any p i x w
    unfold Ii.rightI at this
    rw [h, hb] at this
    exact this)
  have hr0 := rowAt_new w (inoL x) 26
  have hb0 : Below w.heap.size w (w.alloc (.cells (inoL x).toArray 26)) := (Below.refl _ _).alloc (Nat.le_refl _) _
  clear h hb
  generalize Pl.dataN i = d at HW HX
  unfold inoV
  go_enter Try.func4, Try.ntmps4
  go_wp2_with fail
  generalize hw : w.alloc _ = w0
  have R0 : Hid (RowAt w0 w.heap.size (inoL x) ∧ Below w.heap.size w w0) := Lib.hid (by rw [← hw]; exact ⟨hr0, hb0⟩)
  clear hw hr0 hb0
  refine (awake_any _).mono ?_
  rintro e w1 ⟨rfl, hb⟩
  have S1 : Hid (RowAt w1 w.heap.size (inoL x) ∧ Below w.heap.size w w1) := Lib.hid ⟨RowAt.step R0.out.1 hb, R0.out.2.trans (hb.mono R0.out.2.size)⟩
  clear hb R0
  go_wp2_with (first
    | ((with_reducible refine wpList_store_newrow planT (vs := planL p i) rfl (planL_one _ _) rfl (.tmp 7) (.tmp 15) rfl rfl ?_ ?_ ?_); (exact rfl); (exact rfl); intro W3 hP hb hz; have S : Hid (RgS w x w1.heap.size p i W3) := Lib.hid ⟨RowAt.step S1.out.1 hb, hP, S1.out.2.trans (hb.mono S1.out.2.size)⟩; clear hP hb hz S1; generalize w1.heap.size = D at S ⊢)
    | (go_at_call 11; (with_reducible refine (HW.out _).mono ?_); rintro e w4 ⟨rfl, hb⟩; replace S := Lib.hid (S.out.call hb); clear hb)
    | ((with_reducible refine wpList_store_newrow rplanT (vs := rplanL p i d) rfl (rplanL_one _ _ _) rfl (.tmp 8) (.tmp 20) rfl rfl ?_ ?_ ?_); (exact rfl); (exact rfl); intro W5 hP hb hz; replace S := Lib.hid (S.out.call hb); have F := Lib.hid hP; clear hP hb hz; generalize w4.heap.size = E at F ⊢; have c0 := S.out.ino.cell 0 _ rfl; have c1 := S.out.ino.cell 1 _ rfl; have c2 := S.out.ino.cell 2 _ rfl; have c3 := S.out.ino.cell 3 _ rfl; have c4 := S.out.ino.cell 4 _ rfl; have c5 := S.out.ino.cell 5 _ rfl; have c6 := S.out.ino.cell 6 _ rfl; have c7 := S.out.ino.cell 7 _ rfl; have c8 := S.out.ino.cell 8 _ rfl; have c9 := S.out.ino.cell 9 _ rfl; have c10 := S.out.ino.cell 10 _ rfl; have f0 := F.out.cell 0 _ rfl; have f1 := F.out.cell 1 _ rfl; have f2 := F.out.cell 2 _ rfl)
    | (go_at_call 12; (with_reducible refine (HX.out _).mono ?_); rintro e w6 ⟨rfl, hb⟩; clear c0 c1 c2 c3 c4 c5 c6 c7 c8 c9 c10 f0 f1 f2; replace S := Lib.hid (S.out.call hb); clear hb)
    | (with_reducible refine wpList_load_row inoT S.out.ino rfl rfl (.tmp 3) rfl rfl ?_)
    | (with_reducible refine wpList_load_row planT S.out.plan rfl rfl (.tmp 7) rfl rfl ?_)
    | (go_at_call 13; (with_reducible refine (HV.out _).mono ?_); rintro e w7 ⟨rfl, hb⟩; (try clear c0 c1 c2 c3 c4 c5 c6 c7 c8 c9 c10 f0 f1 f2); replace S := Lib.hid (S.out.call hb); clear hb))
  go_quiet (fail)
  go_wp2
  go_ret
  exact ⟨rfl, (S.out.call (below_drewN _ _ _)).below⟩

set_option maxRecDepth 100000 in
set_option maxHeartbeats 4000000 in
theorem walk_true (x : Ino) (p i : Int) (w : World) (h : Pl.rightB p i = true) (hb : Ii.inB p i x = true) :
    Calls Try.prog 4 #[inoV x, .int .i64 p, .int .i64 i] w fun e w' => e = .returned (.bool true) ∧ Below w.heap.size w w' := by
  have HW : Hid (∀ w, Calls Try.prog 11 #[.int .i64 p, .int .i64 i] w fun e w' => e = .returned (.tuple #[.agg (rplanL p i (Pl.dataN i)).toArray, .bool true]) ∧ Below w.heap.size w w') := Lib.hid (fun w => refNew_yes p i w h)
  have HX : Hid (∀ w, Calls Try.prog 12 #[.agg #[.int .i64 x.k, .int .i64 x.p, .int .i64 x.u, .int .i64 x.l, .int .i64 x.s, .int .i64 x.a, .int .i64 x.b, .int .i64 x.c, .int .i64 x.d, .int .i64 x.e, .int .i64 x.f], .agg #[.int .i64 p, .int .i64 i, .int .i64 (Pl.dataN i)]] w fun e w' => e = .returned (.bool true) ∧ Below w.heap.size w w') := Lib.hid (fun w => by
    have := rright_any p i x w
    rw [hb] at this
    exact this)
  have HV : Hid (∀ w, Calls Try.prog 13 #[.agg (inoL x).toArray, .agg (planL p i).toArray] w fun e w' => e = .returned (.bool true) ∧ Below w.heap.size w w') := Lib.hid (fun w => by
    have := iright_any p i x w
    unfold Ii.rightI at this
    rw [h, hb] at this
    exact this)
  have hr0 := rowAt_new w (inoL x) 26
  have hb0 : Below w.heap.size w (w.alloc (.cells (inoL x).toArray 26)) := (Below.refl _ _).alloc (Nat.le_refl _) _
  have hf := Ii.right_fits (show Ii.rightI p i x = true by unfold Ii.rightI; rw [h, hb]; rfl)
  obtain ⟨z, HZ⟩ : ∃ z, Hid (z = Value.agg #[.int .u8 0, .int .u8 0, .int .u8 0, .int .u8 0, .int .u8 0, .int .u8 0, .int .u8 0, .int .u8 0, .int .u8 0, .int .u8 0, .int .u8 0, .int .u8 0, .int .u8 0, .int .u8 0, .int .u8 0, .int .u8 0, .int .u8 0, .int .u8 0, .int .u8 0, .int .u8 0, .int .u8 0, .int .u8 0, .int .u8 0, .int .u8 0, .int .u8 0, .int .u8 0, .int .u8 0, .int .u8 0, .int .u8 0, .int .u8 0, .int .u8 0, .int .u8 0, .int .u8 0, .int .u8 0, .int .u8 0, .int .u8 0, .int .u8 0, .int .u8 0, .int .u8 0, .int .u8 0, .int .u8 0, .int .u8 0, .int .u8 0, .int .u8 0, .int .u8 0, .int .u8 0, .int .u8 0, .int .u8 0, .int .u8 0, .int .u8 0, .int .u8 0, .int .u8 0, .int .u8 0, .int .u8 0, .int .u8 0, .int .u8 0, .int .u8 0, .int .u8 0, .int .u8 0, .int .u8 0, .int .u8 0, .int .u8 0, .int .u8 0, .int .u8 0]) := ⟨_, Lib.hid rfl⟩
  have ly0 := Ii.putN_length zeros 0 x zeros_length (by decide)
  have gp0 : Ii.getI (Ii.putN zeros 0 x) 0 = x := Ii.get_put zeros 0 x zeros_length (by omega) hf
  obtain ⟨y0, EY0⟩ : ∃ y, Hid (y = Ii.putN zeros 0 x) := ⟨_, Lib.hid rfl⟩
  rw [← EY0.out] at ly0 gp0
  have HP0 : Hid (∀ w, Calls Try.prog 7 #[z, .int .i64 0, .agg (inoL x).toArray] w fun e w' => e = .returned (pageV y0) ∧ Below w.heap.size w w') := Lib.hid (fun w => by rw [EY0.out, HZ.out]; exact put_0 zeros x w zeros_length)
  have HG0 : Hid (∀ w, Calls Try.prog 8 #[pageV y0, .int .i64 0] w fun e w' => e = .returned (inoV x) ∧ Below w.heap.size w w') := Lib.hid (fun w => by
    have := iget_0 y0 w ly0
    rw [gp0] at this
    exact this)
  clear EY0 ly0 gp0
  have ly1 := Ii.putN_length zeros 32 x zeros_length (by decide)
  have gp1 : Ii.getI (Ii.putN zeros 32 x) 32 = x := Ii.get_put zeros 32 x zeros_length (by omega) hf
  obtain ⟨y1, EY1⟩ : ∃ y, Hid (y = Ii.putN zeros 32 x) := ⟨_, Lib.hid rfl⟩
  rw [← EY1.out] at ly1 gp1
  have HP1 : Hid (∀ w, Calls Try.prog 7 #[z, .int .i64 1, .agg (inoL x).toArray] w fun e w' => e = .returned (pageV y1) ∧ Below w.heap.size w w') := Lib.hid (fun w => by rw [EY1.out, HZ.out]; exact put_1 zeros x w zeros_length)
  have HG1 : Hid (∀ w, Calls Try.prog 8 #[pageV y1, .int .i64 1] w fun e w' => e = .returned (inoV x) ∧ Below w.heap.size w w') := Lib.hid (fun w => by
    have := iget_1 y1 w ly1
    rw [gp1] at this
    exact this)
  clear EY1 ly1 gp1
  have E1 : ∀ (a b : Operand) (w : World), (eqGuard .eql 26 a b (inoV x) (.agg (inoL x).toArray)).run Try.prog w = .ok () w := fun a b w => run_eqGuard_ino w a b x x
  have E2 : ∀ (w : World), (binOp .eql 26 (inoV x) (.agg (inoL x).toArray)).run Try.prog w = .ok (.bool true) w := fun w => run_eql_ino w x
  clear hf
  clear h hb
  generalize Pl.dataN i = d at HW HX
  unfold inoV
  go_enter Try.func4, Try.ntmps4
  go_wp2_with fail
  generalize hw : w.alloc _ = w0
  have R0 : Hid (RowAt w0 w.heap.size (inoL x) ∧ Below w.heap.size w w0) := Lib.hid (by rw [← hw]; exact ⟨hr0, hb0⟩)
  clear hw hr0 hb0
  refine (awake_any _).mono ?_
  rintro e w1 ⟨rfl, hb⟩
  have S1 : Hid (RowAt w1 w.heap.size (inoL x) ∧ Below w.heap.size w w1) := Lib.hid ⟨RowAt.step R0.out.1 hb, R0.out.2.trans (hb.mono R0.out.2.size)⟩
  clear hb R0
  go_wp2_with (first
    | ((with_reducible refine wpList_store_newrow planT (vs := planL p i) rfl (planL_one _ _) rfl (.tmp 7) (.tmp 15) rfl rfl ?_ ?_ ?_); (exact rfl); (exact rfl); intro W3 hP hb hz; have S : Hid (RgS w x w1.heap.size p i W3) := Lib.hid ⟨RowAt.step S1.out.1 hb, hP, S1.out.2.trans (hb.mono S1.out.2.size)⟩; clear hP hb hz S1; generalize w1.heap.size = D at S ⊢)
    | (go_at_call 11; (with_reducible refine (HW.out _).mono ?_); rintro e w4 ⟨rfl, hb⟩; replace S := Lib.hid (S.out.call hb); clear hb)
    | ((with_reducible refine wpList_store_newrow rplanT (vs := rplanL p i d) rfl (rplanL_one _ _ _) rfl (.tmp 8) (.tmp 20) rfl rfl ?_ ?_ ?_); (exact rfl); (exact rfl); intro W5 hP hb hz; replace S := Lib.hid (S.out.call hb); have F := Lib.hid hP; clear hP hb hz; generalize w4.heap.size = E at F ⊢; have c0 := S.out.ino.cell 0 _ rfl; have c1 := S.out.ino.cell 1 _ rfl; have c2 := S.out.ino.cell 2 _ rfl; have c3 := S.out.ino.cell 3 _ rfl; have c4 := S.out.ino.cell 4 _ rfl; have c5 := S.out.ino.cell 5 _ rfl; have c6 := S.out.ino.cell 6 _ rfl; have c7 := S.out.ino.cell 7 _ rfl; have c8 := S.out.ino.cell 8 _ rfl; have c9 := S.out.ino.cell 9 _ rfl; have c10 := S.out.ino.cell 10 _ rfl; have f0 := F.out.cell 0 _ rfl; have f1 := F.out.cell 1 _ rfl; have f2 := F.out.cell 2 _ rfl)
    | (go_at_call 12; (with_reducible refine (HX.out _).mono ?_); rintro e w6 ⟨rfl, hb⟩; clear c0 c1 c2 c3 c4 c5 c6 c7 c8 c9 c10 f0 f1 f2; replace S := Lib.hid (S.out.call hb); clear hb)
    | (with_reducible refine wpList_load_row inoT S.out.ino rfl rfl (.tmp 3) rfl rfl ?_)
    | (with_reducible refine wpList_load_row planT S.out.plan rfl rfl (.tmp 7) rfl rfl ?_)
    | (go_at_call 13; (with_reducible refine (HV.out _).mono ?_); rintro e w7 ⟨rfl, hb⟩; (try clear c0 c1 c2 c3 c4 c5 c6 c7 c8 c9 c10 f0 f1 f2); replace S := Lib.hid (S.out.call hb); clear hb))
  refine wp_region_class (C := fun w' => Below w7.heap.size w7 w') (by kernel_rfl) ⟨rfl, rfl, rfl, Nat.le_refl _, fun _ _ => rfl⟩ ?_
  refine wpQuiet_take (.bool true) (by kernel_rfl) (fun w' hw' => ?_) ?_
  · go_simp
  (try simp only [Act.put, List.setIfInBounds_toArray, List.set_cons_zero, List.set_cons_succ])
  refine wpQuiet_take (.bool false) (by kernel_rfl) (fun w' hw' => ?_) ?_
  · go_simp
  (try simp only [Act.put, List.setIfInBounds_toArray, List.set_cons_zero, List.set_cons_succ])
  refine wpQuiet_take (.bool false) (by kernel_rfl) (fun w' hw' => ?_) ?_
  · go_simp
  (try simp only [Act.put, List.setIfInBounds_toArray, List.set_cons_zero, List.set_cons_succ])
  refine wpQuiet_take (z) (by kernel_rfl) (fun w' hw' => ?_) ?_
  · rw [HZ.out]; go_simp
  (try simp only [Act.put, List.setIfInBounds_toArray, List.set_cons_zero, List.set_cons_succ])
  refine wpQuiet_row inoT (vs := inoL x) rfl (.tmp 3) rfl rfl (by kernel_rfl) (fun w' hw' => (S.out.call hw').ino) ?_
  (try simp only [Act.put, List.setIfInBounds_toArray, List.set_cons_zero, List.set_cons_succ])
  refine wpQuiet_call 7 #[z, .int .i64 0, .agg (inoL x).toArray] (pageV y0) (by kernel_rfl) (fun w' => by (go_simp) <;> rfl) (fun w' hw' => (HP0.out w').mono fun e w'' h => ⟨h.1, hw'.trans (h.2.mono hw'.size)⟩) ?_
  (try simp only [Act.put, List.setIfInBounds_toArray, List.set_cons_zero, List.set_cons_succ])
  refine wpQuiet_call 8 #[pageV y0, .int .i64 0] (inoV x) (by kernel_rfl) (fun w' => by (go_simp) <;> rfl) (fun w' hw' => (HG0.out w').mono fun e w'' h => ⟨h.1, hw'.trans (h.2.mono hw'.size)⟩) ?_
  (try simp only [Act.put, List.setIfInBounds_toArray, List.set_cons_zero, List.set_cons_succ])
  refine wpQuiet_row inoT (vs := inoL x) rfl (.tmp 3) rfl rfl (by kernel_rfl) (fun w' hw' => (S.out.call hw').ino) ?_
  (try simp only [Act.put, List.setIfInBounds_toArray, List.set_cons_zero, List.set_cons_succ])
  refine wpQuiet_take (.bool true) (by kernel_rfl) (fun w' hw' => ?_) ?_
  · go_simp
  (try simp only [Act.put, List.setIfInBounds_toArray, List.set_cons_zero, List.set_cons_succ])
  refine wpQuiet_take (.bool true) (by kernel_rfl) (fun w' hw' => ?_) ?_
  · go_simp
  (try simp only [Act.put, List.setIfInBounds_toArray, List.set_cons_zero, List.set_cons_succ])
  refine wpQuiet_take (z) (by kernel_rfl) (fun w' hw' => ?_) ?_
  · rw [HZ.out]; go_simp
  (try simp only [Act.put, List.setIfInBounds_toArray, List.set_cons_zero, List.set_cons_succ])
  refine wpQuiet_row inoT (vs := inoL x) rfl (.tmp 3) rfl rfl (by kernel_rfl) (fun w' hw' => (S.out.call hw').ino) ?_
  (try simp only [Act.put, List.setIfInBounds_toArray, List.set_cons_zero, List.set_cons_succ])
  refine wpQuiet_call 7 #[z, .int .i64 1, .agg (inoL x).toArray] (pageV y1) (by kernel_rfl) (fun w' => by (go_simp) <;> rfl) (fun w' hw' => (HP1.out w').mono fun e w'' h => ⟨h.1, hw'.trans (h.2.mono hw'.size)⟩) ?_
  (try simp only [Act.put, List.setIfInBounds_toArray, List.set_cons_zero, List.set_cons_succ])
  refine wpQuiet_call 8 #[pageV y1, .int .i64 1] (inoV x) (by kernel_rfl) (fun w' => by (go_simp) <;> rfl) (fun w' hw' => (HG1.out w').mono fun e w'' h => ⟨h.1, hw'.trans (h.2.mono hw'.size)⟩) ?_
  (try simp only [Act.put, List.setIfInBounds_toArray, List.set_cons_zero, List.set_cons_succ])
  refine wpQuiet_row inoT (vs := inoL x) rfl (.tmp 3) rfl rfl (by kernel_rfl) (fun w' hw' => (S.out.call hw').ino) ?_
  (try simp only [Act.put, List.setIfInBounds_toArray, List.set_cons_zero, List.set_cons_succ])
  refine wpQuiet_take (.bool true) (by kernel_rfl) (fun w' hw' => ?_) ?_
  · go_simp
  (try simp only [Act.put, List.setIfInBounds_toArray, List.set_cons_zero, List.set_cons_succ])
  refine wpQuiet_take (.bool true) (by kernel_rfl) (fun w' hw' => ?_) ?_
  · go_simp
  (try simp only [Act.put, List.setIfInBounds_toArray, List.set_cons_zero, List.set_cons_succ])
  refine wpQuiet_take (.bool true) (by kernel_rfl) (fun w' hw' => ?_) ?_
  · go_simp
  (try simp only [Act.put, List.setIfInBounds_toArray, List.set_cons_zero, List.set_cons_succ])
  refine wpQuiet_take (.bool true) (by kernel_rfl) (fun w' hw' => ?_) ?_
  · go_simp
  (try simp only [Act.put, List.setIfInBounds_toArray, List.set_cons_zero, List.set_cons_succ])
  refine wpQuiet_nil ?_
  intro w8 hw8
  have hs := (S.out.call hw8).below
  go_wp2
  go_ret
  exact ⟨rfl, hs⟩

theorem walk (x : Ino) (p i : Int) (w : World) :
    Calls Try.prog 4 #[inoV x, .int .i64 p, .int .i64 i] w fun e w' => e = .returned (.bool true) ∧ Below w.heap.size w w' := by
  cases h : Pl.rightB p i with
  | false => exact walk_none x p i w h
  | true =>
    cases hb : Ii.inB p i x with
    | false => exact walk_false x p i w h hb
    | true => exact walk_true x p i w h hb
set_option maxRecDepth 100000 in
theorem lifted (os : Os) (started : os.Started) (H : Type) (enc : TypeId × Value → H) :
    ReturnsInHanded {} Try.checked os 4 .any (Rows.inodeRightsSpec.pre6 enc Try.prog Try.f4 Rows.inodeRightsRow.domain false) (Rows.inodeRightsSpec.post enc Try.prog Try.f4 false true false false) := by
  refine returnsInHanded_of_change (C := Try.checked) own started (by kernel_rfl) Try.func4
    (ChangeSpec.witness6 (enc := enc) (C := Try.checked) false ⟨#[], #[.agg #[.int .i64 0, .int .i64 0, .int .i64 0, .int .i64 0, .int .i64 0, .int .i64 0, .int .i64 0, .int .i64 0, .int .i64 0, .int .i64 0, .int .i64 0], .int .i64 0, .int .i64 0], []⟩ 8 (by kernel_rfl) (by kernel_rfl) (by kernel_rfl) (by kernel_rfl)) ?_
  intro W base args ds gs before hval0 hW hcnd _
  have hval : ∀ (j : Nat) t v, Try.f4.params[j]? = some t → args[j]? = some v → Value.okWide Try.prog W .any base t v := hval0
  have hW' := hW
  obtain ⟨p, q, hA0, hV, rfl, hfz, hnd⟩ := hW
  have hA : DataW.TrodAll enc Try.prog W 0 (fun _ => true) true Try.f4.params.toList args.toList ds p := hA0
  rw [Try.params4] at hA hval
  obtain ⟨v0, vs0, d0, ds0, p0, q0, hargs, rfl, rfl, h0, r0⟩ := trodAll_cons hA
  obtain ⟨v1, vs1, d1, ds1, p1, q1, rfl, rfl, rfl, h1, r1⟩ := trodAll_cons r0
  obtain ⟨v2, vs2, d2, ds2, p2, q2, rfl, rfl, rfl, h2, r2⟩ := trodAll_cons r1
  obtain ⟨rfl, rfl, rfl⟩ := trodAll_nil r2
  obtain rfl : args = #[v0, v1, v2] := by cases args; simp_all
  obtain ⟨rfl, rfl⟩ := trodVars_none hV
  have k0 := h0
  have lt0 : ∀ x ∈ p0, x.block < W.heap.size := by obtain ⟨m, hm⟩ := k0; exact DataW.trod_lt m _ _ _ hm
  have k1 := h1
  have lt1 : ∀ x ∈ p1, x.block < W.heap.size := by obtain ⟨m, hm⟩ := k1; exact DataW.trod_lt m _ _ _ hm
  have k2 := h2
  have lt2 : ∀ x ∈ p2, x.block < W.heap.size := by obtain ⟨m, hm⟩ := k2; exact DataW.trod_lt m _ _ _ hm
  obtain ⟨x, rfl⟩ := open_ino (hval 0 26 v0 rfl rfl) h0
  obtain ⟨p, rfl, ed1, ep1, w1⟩ := open_int Try.underlying3 (hval 1 3 v1 rfl rfl) h1
  obtain ⟨i, rfl, ed2, ep2, w2⟩ := open_int Try.underlying3 (hval 2 3 v2 rfl rfl) h2
  clear hA0 hval0
  refine (walk x p i W).mono fun e W' ⟨he, bel⟩ => ?_
  subst he
  exact ⟨_, rfl, _, _, _, [], _, [], hW', trodAll_mk1 (shut_bool Try.underlying4 _), (trodAll_cons_mk (Below.trod laidOut (by kernel_rfl) (of_decide_eq_true (by kernel_rfl)) k0 bel lt0) (trodAll_cons_mk (Below.trod laidOut (by kernel_rfl) (of_decide_eq_true (by kernel_rfl)) k1 bel lt1) (trodAll_cons_mk (Below.trod laidOut (by kernel_rfl) (of_decide_eq_true (by kernel_rfl)) k2 bel lt2) trodAll_mk0))), rfl, bel.frame _, fun h => by cases h⟩
theorem over : Rows.inodeRightsRow.holds Try.pinned (OpenSpec.ofChange Rows.inodeRightsSpec) :=
  OpenClaim.holds_of_wide 4 Try.f4 rfl rfl rfl rfl rfl rfl rfl ⟨rfl, rfl, rfl, rfl, rfl⟩ rfl rfl rfl rfl rfl (by kernel_rfl) Try.func4 (by kernel_rfl)
    (of_decide_eq_true (by kernel_rfl)) (by unfold Func.isWrapper; first | (rw [if_pos (by decide +kernel)]; kernel_rfl) | (rw [if_neg (by decide +kernel)]; exact ⟨rfl, rfl⟩))
    (fun os started H enc _ => lifted os started H enc)

/-- THE STATEMENT -/
theorem proved : Rows.InodeRightsSaid := over
#print axioms proved
end Go.Proofs.Ytchlhnpnenafnaa.inodeRights
