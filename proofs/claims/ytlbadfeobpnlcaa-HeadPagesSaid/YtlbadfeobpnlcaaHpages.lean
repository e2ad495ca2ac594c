/-
  Proved: HeadPages returns true for every head: it is right, or not, and has the page that the document says, or none, and comes back from it.
  Conditions: none beside the statement's own.
-/
import Derived.Test.YtlbadfeobpnlcaaHrefp
namespace Go.Proofs.Ytlbadfeobpnlcaa.headPages
open Go.ChangeShapes Go.WideShapes Go.ChangeAt Go.RowKit
open Hd (Head rightB pageH)

/-- what stands in memory: the head, the document's own, the page -/
structure PgS (w0 : World) (h : Head) (C D : Nat) (p : List UInt8) (W : World) : Prop where
  own : HeadAt W w0.heap.size h
  ref : HeadAt W C h
  page : PageAt W D p
  below : Below w0.heap.size w0 W
theorem PgS.call {w0 : World} {h : Head} {C D : Nat} {p : List UInt8} {W W' : World} (k : PgS w0 h C D p W) (hb : Below W.heap.size W W') : PgS w0 h C D p W' :=
  ⟨k.own.below hb k.own.lt, k.ref.below hb k.ref.lt, k.page.below hb k.page.lt, k.below.trans (hb.mono k.below.size)⟩
theorem PgS.drew {w0 : World} {h : Head} {C D : Nat} {p : List UInt8} {W : World} (k : PgS w0 h C D p W) : PgS w0 h C D p W.drew := ⟨k.own.drew, k.ref.drew, k.page.drew, k.below.drew⟩
/-- and the head that came back -/
def PgE (w0 : World) (h : Head) (C D F : Nat) (p : List UInt8) (W : World) : Prop := PgS w0 h C D p W ∧ HeadAt W F h
theorem PgE.call {w0 : World} {h : Head} {C D F : Nat} {p : List UInt8} {W W' : World} (k : PgE w0 h C D F p W) (hb : Below W.heap.size W W') : PgE w0 h C D F p W' := ⟨k.1.call hb, k.2.below hb k.2.lt⟩

set_option maxHeartbeats 4000000 in
theorem walk_no (h : Head) (w : World) (hr : rightB h = false) :
    Calls Try.prog 3 #[headV h] w fun e w' => e = .returned (.bool true) ∧ Below w.heap.size w w' := by
  have HE := Lib.hid (fun (w : World) => encode_no h w hr)
  have HL := Lib.hid zeros_length
  have HR := Lib.hid (fun (w : World) => right_no h w hr)
  have HRr := Lib.hid (fun (w : World) => refRight_no h w hr)
  have E1 : ∀ (x y : Operand) (w : World), (eqGuard .eql 28 x y (pageV zeros) (.agg zeroCells)).run Try.prog w = .ok () w := fun x y w => run_eqGuard_page w x y zeros zeros
  have E2 : ∀ (w : World), (binOp .eql 28 (pageV zeros) (.agg zeroCells)).run Try.prog w = .ok (.bool true) w := fun w => run_eql_same w zeros zeros_length
  rw [zeroCells_def] at E1 E2
  clear hr
  generalize zeros = p at HE HL E1 E2
  have HS := Lib.hid (headAt_new w h 24)
  have HB : Hid (Below w.heap.size w (w.alloc (.cells (headVals h).toArray 24))) := Lib.hid ((Below.refl _ _).alloc (Nat.le_refl _) _)
  go_enter Try.func3, Try.ntmps3
  unfold headVals at HS HB
  unfold headV
  go_wp2_with fail
  refine (awake_any _).mono ?_
  rintro e w1 ⟨rfl, hb1⟩
  have S1 := Lib.hid (HS.out.below (by simpa using hb1) (by omega))
  have B1 := Lib.hid (HB.out.trans ((by simpa using hb1 : Below (w.heap.size + 1) _ w1).mono (by omega)))
  clear HS HB hb1
  go_wp2_with (first
    | ((with_reducible refine wpList_store_newhead refT (h := h) rfl (.tmp 3) (.tmp 10) rfl rfl ?_ ?_ ?_); (exact rfl); (exact rfl); intro W2 hH hB2 hz2; have S2 := Lib.hid (S1.out.below hB2 S1.out.lt); have R2 := Lib.hid hH; have B2 := Lib.hid (B1.out.trans (hB2.mono B1.out.size)); clear S1 B1 hH hB2 hz2; generalize w1.heap.size = C at R2 ⊢)
    | ((with_reducible refine wpList_load_head headT S1.out rfl (.tmp 1) rfl rfl ?_))
    | ((with_reducible refine wpList_load_head headT S2.out rfl (.tmp 1) rfl rfl ?_)))
  refine (HE.out _).mono ?_
  rintro e w3 ⟨rfl, hb3⟩
  have S3 := Lib.hid (S2.out.below hb3 S2.out.lt)
  have R3 := Lib.hid (R2.out.below hb3 R2.out.lt)
  have B3 := Lib.hid (B2.out.trans (hb3.mono B2.out.size))
  clear S2 R2 B2 hb3
  go_wp2_with ((with_reducible refine wpList_store_new rfl (.tmp 4) (.tmp 14) rfl rfl ?_ ?_ HL.out ?_); (exact rfl); (exact rfl); intro W4 hP hB4 hz4; have S5 : Hid (PgS w h C w3.heap.size p W4) := Lib.hid ⟨S3.out.below hB4 S3.out.lt, R3.out.below hB4 R3.out.lt, hP, B3.out.trans (hB4.mono B3.out.size)⟩; clear S3 R3 B3 hP hB4 hz4; generalize w3.heap.size = D at S5 ⊢)
  refine wp_region_lin (fun (_ : Unit) => PgS w h C D p) (fun _ => false) (fun i => [headV h, .bool false, headV h, .bool false, .bool false].getD i undef) (()) (by kernel_rfl) (by kernel_rfl) (S5.out.drew) ?_
  refine lin_step (i := 0) (d := some 16) (v := headV h) rfl rfl (by kernel_rfl) (by kernel_rfl) rfl rfl (ord_head headT (by kernel_rfl) (.tmp 1) rfl rfl (fun _ _ hS => PgS.own hS)) ?_
  (try simp only [Act.put, List.setIfInBounds_toArray, List.set_cons_zero, List.set_cons_succ])
  refine lin_step (i := 1) (d := some 17) (v := .bool false) rfl rfl (by kernel_rfl) (by kernel_rfl) rfl rfl (ord_call (f := 9) (args := #[headV h]) (by kernel_rfl) ?_ (fun _ _ hS => (HR.out _).mono fun _ _ ⟨he, hb⟩ => ⟨he, PgS.call hS hb⟩)) ?_
  · intro _; go_simp
  (try simp only [Act.put, List.setIfInBounds_toArray, List.set_cons_zero, List.set_cons_succ])
  refine lin_step (i := 2) (d := some 18) (v := headV h) rfl rfl (by kernel_rfl) (by kernel_rfl) rfl rfl (ord_head refT (by kernel_rfl) (.tmp 3) rfl rfl (fun _ _ hS => PgS.ref hS)) ?_
  (try simp only [Act.put, List.setIfInBounds_toArray, List.set_cons_zero, List.set_cons_succ])
  refine lin_step (i := 3) (d := some 19) (v := .bool false) rfl rfl (by kernel_rfl) (by kernel_rfl) rfl rfl (ord_call (f := 10) (args := #[headV h]) (by kernel_rfl) ?_ (fun _ _ hS => (HRr.out _).mono fun _ _ ⟨he, hb⟩ => ⟨he, PgS.call hS hb⟩)) ?_
  · intro _; go_simp
  (try simp only [Act.put, List.setIfInBounds_toArray, List.set_cons_zero, List.set_cons_succ])
  refine lin_step (i := 4) (d := some 20) (v := .bool false) rfl rfl (by kernel_rfl) (by kernel_rfl) rfl rfl (ord_value (by kernel_rfl) ?_) ?_
  · intro _ _ _; go_simp
  (try simp only [Act.put, List.setIfInBounds_toArray, List.set_cons_zero, List.set_cons_succ])
  refine lin_done (by kernel_rfl) ?_
  intro W5 hS
  have S6 := Lib.hid hS
  clear S5 hS
  go_wp2_with (with_reducible refine wpList_load_head refT (PgS.ref S6.out) rfl (.tmp 3) rfl rfl ?_)
  refine (HRr.out _).mono ?_
  rintro e w6 ⟨rfl, hb6⟩
  have S7 := Lib.hid (PgS.call S6.out hb6)
  clear S6 hb6
  clear HE HL HR HRr
  go_wp2_with (with_reducible refine wpList_load_page (PgS.page S7.out) rfl (.tmp 4) rfl rfl ?_)
  go_ret
  exact ⟨rfl, (PgS.below S7.out)⟩

set_option maxHeartbeats 4000000 in
theorem walk_yes (h : Head) (w : World) (h0 : 0 ≤ h.sum) (h1 : h.sum < 4294967296) (hr : rightB h = true) :
    Calls Try.prog 3 #[headV h] w fun e w' => e = .returned (.bool true) ∧ Below w.heap.size w w' := by
  have HE := Lib.hid (fun (w : World) => encode_yes h w hr h0 h1)
  have HL := Lib.hid (Hd.pageH_length h)
  have HR := Lib.hid (fun (w : World) => right_yes h w hr)
  have HRr := Lib.hid (fun (w : World) => refRight_yes h w hr)
  have HP := Lib.hid (fun (w : World) => refPage_any h w h0 h1)
  have HD : Hid (∀ w, Calls Try.prog 11 #[pageV (pageH h)] w fun e w' => e = .returned (.tuple #[headV h, .bool true]) ∧ Below w.heap.size w w') := Lib.hid (fun w => by
    have := decode_yes (pageH h) w (Hd.pageH_length h) (Hd.whole_page h hr h0 h1)
    rw [Hd.read_page h hr h0 h1] at this
    exact this)
  have E1 := fun (x y : Operand) (w : World) => run_eqGuard_page w x y (pageH h) (pageH h)
  have E2 := fun (w : World) => run_eql_same w (pageH h) (Hd.pageH_length h)
  have E3 := fun (x y : Operand) (w : World) => run_eqGuard_head w x y h h
  have E4 : ∀ w, (binOp .eql 24 (headV h) (headV h)).run Try.prog w = .ok (.bool true) w := fun w => by rw [run_eql_head w h h, decide_eq_true rfl]
  clear hr h0 h1
  generalize pageH h = p at HE HL HP HD E1 E2
  have HS := Lib.hid (headAt_new w h 24)
  have HB : Hid (Below w.heap.size w (w.alloc (.cells (headVals h).toArray 24))) := Lib.hid ((Below.refl _ _).alloc (Nat.le_refl _) _)
  go_enter Try.func3, Try.ntmps3
  unfold headVals at HS HB
  unfold headV
  go_wp2_with fail
  refine (awake_any _).mono ?_
  rintro e w1 ⟨rfl, hb1⟩
  have S1 := Lib.hid (HS.out.below (by simpa using hb1) (by omega))
  have B1 := Lib.hid (HB.out.trans ((by simpa using hb1 : Below (w.heap.size + 1) _ w1).mono (by omega)))
  clear HS HB hb1
  go_wp2_with (first
    | ((with_reducible refine wpList_store_newhead refT (h := h) rfl (.tmp 3) (.tmp 10) rfl rfl ?_ ?_ ?_); (exact rfl); (exact rfl); intro W2 hH hB2 hz2; have S2 := Lib.hid (S1.out.below hB2 S1.out.lt); have R2 := Lib.hid hH; have B2 := Lib.hid (B1.out.trans (hB2.mono B1.out.size)); clear S1 B1 hH hB2 hz2; generalize w1.heap.size = C at R2 ⊢)
    | ((with_reducible refine wpList_load_head headT S1.out rfl (.tmp 1) rfl rfl ?_))
    | ((with_reducible refine wpList_load_head headT S2.out rfl (.tmp 1) rfl rfl ?_)))
  refine (HE.out _).mono ?_
  rintro e w3 ⟨rfl, hb3⟩
  have S3 := Lib.hid (S2.out.below hb3 S2.out.lt)
  have R3 := Lib.hid (R2.out.below hb3 R2.out.lt)
  have B3 := Lib.hid (B2.out.trans (hb3.mono B2.out.size))
  clear S2 R2 B2 hb3
  go_wp2_with ((with_reducible refine wpList_store_new rfl (.tmp 4) (.tmp 14) rfl rfl ?_ ?_ HL.out ?_); (exact rfl); (exact rfl); intro W4 hP hB4 hz4; have S5 : Hid (PgS w h C w3.heap.size p W4) := Lib.hid ⟨S3.out.below hB4 S3.out.lt, R3.out.below hB4 R3.out.lt, hP, B3.out.trans (hB4.mono B3.out.size)⟩; clear S3 R3 B3 hP hB4 hz4; generalize w3.heap.size = D at S5 ⊢)
  refine wp_region_lin (fun (_ : Unit) => PgS w h C D p) (fun _ => false) (fun i => [headV h, .bool true, headV h, .bool true, .bool false].getD i undef) (()) (by kernel_rfl) (by kernel_rfl) (S5.out.drew) ?_
  refine lin_step (i := 0) (d := some 16) (v := headV h) rfl rfl (by kernel_rfl) (by kernel_rfl) rfl rfl (ord_head headT (by kernel_rfl) (.tmp 1) rfl rfl (fun _ _ hS => PgS.own hS)) ?_
  (try simp only [Act.put, List.setIfInBounds_toArray, List.set_cons_zero, List.set_cons_succ])
  refine lin_step (i := 1) (d := some 17) (v := .bool true) rfl rfl (by kernel_rfl) (by kernel_rfl) rfl rfl (ord_call (f := 9) (args := #[headV h]) (by kernel_rfl) ?_ (fun _ _ hS => (HR.out _).mono fun _ _ ⟨he, hb⟩ => ⟨he, PgS.call hS hb⟩)) ?_
  · intro _; go_simp
  (try simp only [Act.put, List.setIfInBounds_toArray, List.set_cons_zero, List.set_cons_succ])
  refine lin_step (i := 2) (d := some 18) (v := headV h) rfl rfl (by kernel_rfl) (by kernel_rfl) rfl rfl (ord_head refT (by kernel_rfl) (.tmp 3) rfl rfl (fun _ _ hS => PgS.ref hS)) ?_
  (try simp only [Act.put, List.setIfInBounds_toArray, List.set_cons_zero, List.set_cons_succ])
  refine lin_step (i := 3) (d := some 19) (v := .bool true) rfl rfl (by kernel_rfl) (by kernel_rfl) rfl rfl (ord_call (f := 10) (args := #[headV h]) (by kernel_rfl) ?_ (fun _ _ hS => (HRr.out _).mono fun _ _ ⟨he, hb⟩ => ⟨he, PgS.call hS hb⟩)) ?_
  · intro _; go_simp
  (try simp only [Act.put, List.setIfInBounds_toArray, List.set_cons_zero, List.set_cons_succ])
  refine lin_step (i := 4) (d := some 20) (v := .bool false) rfl rfl (by kernel_rfl) (by kernel_rfl) rfl rfl (ord_value (by kernel_rfl) ?_) ?_
  · intro _ _ _; go_simp
  (try simp only [Act.put, List.setIfInBounds_toArray, List.set_cons_zero, List.set_cons_succ])
  refine lin_done (by kernel_rfl) ?_
  intro W5 hS
  have S6 := Lib.hid hS
  clear S5 hS
  go_wp2_with (with_reducible refine wpList_load_head refT (PgS.ref S6.out) rfl (.tmp 3) rfl rfl ?_)
  refine (HRr.out _).mono ?_
  rintro e w6 ⟨rfl, hb6⟩
  have S7 := Lib.hid (PgS.call S6.out hb6)
  clear S6 hb6
  go_wp2_with (with_reducible refine wpList_load_page (PgS.page S7.out) rfl (.tmp 4) rfl rfl ?_)
  refine (HD.out _).mono ?_
  rintro e w8 ⟨rfl, hb8⟩
  have S8 := Lib.hid (PgS.call S7.out hb8)
  clear S7 hb8 HE HD HR HRr
  go_wp2_with ((with_reducible refine wpList_store_newhead headT (h := h) rfl (.tmp 6) (.tmp 34) rfl rfl ?_ ?_ ?_); (exact rfl); (exact rfl); intro W9 hH hB9 hz9; have S9 := Lib.hid (PgS.call S8.out hB9); have G9 := Lib.hid hH; clear S8 hH hB9 hz9; generalize w8.heap.size = F at G9 ⊢)
  refine wp_region_lin (fun (_ : Unit) W => PgE w h C D F p W) (fun _ => false) (fun i => [.int .i64 0, .bool true, .bool true, pageV p, headV h, pageV p, .bool true, .bool true, .bool true, .bool true, .bool true, .bool true, headV h, headV h, .bool true, .bool true, .bool true].getD i undef) (()) (by kernel_rfl) (by kernel_rfl) (⟨S9.out.drew, G9.out.drew⟩) ?_
  refine lin_step (i := 0) (d := some 36) (v := .int .i64 0) rfl rfl (by kernel_rfl) (by kernel_rfl) rfl rfl (ord_value (by kernel_rfl) ?_) ?_
  · intro _ _ _; go_simp
  (try simp only [Act.put, List.setIfInBounds_toArray, List.set_cons_zero, List.set_cons_succ])
  refine lin_step (i := 1) (d := some 37) (v := .bool true) rfl rfl (by kernel_rfl) (by kernel_rfl) rfl rfl (ord_value (by kernel_rfl) ?_) ?_
  · intro _ _ _; go_simp
  (try simp only [Act.put, List.setIfInBounds_toArray, List.set_cons_zero, List.set_cons_succ])
  refine lin_step (i := 2) (d := some 38) (v := .bool true) rfl rfl (by kernel_rfl) (by kernel_rfl) rfl rfl (ord_value (by kernel_rfl) ?_) ?_
  · intro _ _ _; go_simp
  (try simp only [Act.put, List.setIfInBounds_toArray, List.set_cons_zero, List.set_cons_succ])
  refine lin_step (i := 3) (d := some 39) (v := pageV p) rfl rfl (by kernel_rfl) (by kernel_rfl) rfl rfl (ord_page (by kernel_rfl) (.tmp 4) rfl rfl (fun _ _ hS => hS.1.page)) ?_
  (try simp only [Act.put, List.setIfInBounds_toArray, List.set_cons_zero, List.set_cons_succ])
  refine lin_step (i := 4) (d := some 40) (v := headV h) rfl rfl (by kernel_rfl) (by kernel_rfl) rfl rfl (ord_head refT (by kernel_rfl) (.tmp 3) rfl rfl (fun _ _ hS => hS.1.ref)) ?_
  (try simp only [Act.put, List.setIfInBounds_toArray, List.set_cons_zero, List.set_cons_succ])
  refine lin_step (i := 5) (d := some 41) (v := pageV p) rfl rfl (by kernel_rfl) (by kernel_rfl) rfl rfl (ord_call (f := 12) (args := #[headV h]) (by kernel_rfl) ?_ (fun _ _ hS => (HP.out _).mono fun _ _ ⟨he, hb⟩ => ⟨he, PgE.call hS hb⟩)) ?_
  · intro _; go_simp
  (try simp only [Act.put, List.setIfInBounds_toArray, List.set_cons_zero, List.set_cons_succ])
  refine lin_step (i := 6) (d := some 42) (v := .bool true) rfl rfl (by kernel_rfl) (by kernel_rfl) rfl rfl (ord_value (by kernel_rfl) ?_) ?_
  · intro _ _ _; go_simp
  (try simp only [Act.put, List.setIfInBounds_toArray, List.set_cons_zero, List.set_cons_succ])
  refine lin_step (i := 7) (d := some 43) (v := .bool true) rfl rfl (by kernel_rfl) (by kernel_rfl) rfl rfl (ord_value (by kernel_rfl) ?_) ?_
  · intro _ _ _; go_simp
  (try simp only [Act.put, List.setIfInBounds_toArray, List.set_cons_zero, List.set_cons_succ])
  refine lin_step (i := 8) (d := some 44) (v := .bool true) rfl rfl (by kernel_rfl) (by kernel_rfl) rfl rfl (ord_value (by kernel_rfl) ?_) ?_
  · intro _ _ _; go_simp
  (try simp only [Act.put, List.setIfInBounds_toArray, List.set_cons_zero, List.set_cons_succ])
  refine lin_step (i := 9) (d := some 45) (v := .bool true) rfl rfl (by kernel_rfl) (by kernel_rfl) rfl rfl (ord_value (by kernel_rfl) ?_) ?_
  · intro _ _ _; go_simp
  (try simp only [Act.put, List.setIfInBounds_toArray, List.set_cons_zero, List.set_cons_succ])
  refine lin_step (i := 10) (d := some 46) (v := .bool true) rfl rfl (by kernel_rfl) (by kernel_rfl) rfl rfl (ord_value (by kernel_rfl) ?_) ?_
  · intro _ _ _; go_simp
  (try simp only [Act.put, List.setIfInBounds_toArray, List.set_cons_zero, List.set_cons_succ])
  refine lin_step (i := 11) (d := some 47) (v := .bool true) rfl rfl (by kernel_rfl) (by kernel_rfl) rfl rfl (ord_value (by kernel_rfl) ?_) ?_
  · intro _ _ _; go_simp
  (try simp only [Act.put, List.setIfInBounds_toArray, List.set_cons_zero, List.set_cons_succ])
  refine lin_step (i := 12) (d := some 48) (v := headV h) rfl rfl (by kernel_rfl) (by kernel_rfl) rfl rfl (ord_head headT (by kernel_rfl) (.tmp 6) rfl rfl (fun _ _ hS => hS.2)) ?_
  (try simp only [Act.put, List.setIfInBounds_toArray, List.set_cons_zero, List.set_cons_succ])
  refine lin_step (i := 13) (d := some 49) (v := headV h) rfl rfl (by kernel_rfl) (by kernel_rfl) rfl rfl (ord_head headT (by kernel_rfl) (.tmp 1) rfl rfl (fun _ _ hS => hS.1.own)) ?_
  (try simp only [Act.put, List.setIfInBounds_toArray, List.set_cons_zero, List.set_cons_succ])
  refine lin_step (i := 14) (d := some 50) (v := .bool true) rfl rfl (by kernel_rfl) (by kernel_rfl) rfl rfl (ord_value (by kernel_rfl) ?_) ?_
  · intro _ _ _; go_simp
  (try simp only [Act.put, List.setIfInBounds_toArray, List.set_cons_zero, List.set_cons_succ])
  refine lin_step (i := 15) (d := some 51) (v := .bool true) rfl rfl (by kernel_rfl) (by kernel_rfl) rfl rfl (ord_value (by kernel_rfl) ?_) ?_
  · intro _ _ _; go_simp
  (try simp only [Act.put, List.setIfInBounds_toArray, List.set_cons_zero, List.set_cons_succ])
  refine lin_step (i := 16) (d := some 2) (v := .bool true) rfl rfl (by kernel_rfl) (by kernel_rfl) rfl rfl (ord_value (by kernel_rfl) ?_) ?_
  · intro _ _ _; go_simp
  (try simp only [Act.put, List.setIfInBounds_toArray, List.set_cons_zero, List.set_cons_succ])
  refine lin_done (by kernel_rfl) ?_
  intro W10 hS
  go_wp2_with fail
  go_ret
  exact ⟨rfl, hS.1.below⟩

theorem walk (h : Head) (w : World) (h0 : 0 ≤ h.sum) (h1 : h.sum < 4294967296) :
    Calls Try.prog 3 #[headV h] w fun e w' => e = .returned (.bool true) ∧ Below w.heap.size w w' := by
  cases hr : rightB h with
  | false => exact walk_no h w hr
  | true => exact walk_yes h w h0 h1 hr

set_option maxRecDepth 100000 in
theorem lifted (os : Os) (started : os.Started) (H : Type) (enc : TypeId × Value → H) :
    ReturnsInHanded {} Try.checked os 3 .any (Rows.headPagesSpec.pre6 enc Try.prog Try.f3 Rows.headPagesRow.domain false) (Rows.headPagesSpec.post enc Try.prog Try.f3 false true false false) := by
  refine returnsInHanded_of_change (C := Try.checked) own started (by kernel_rfl) Try.func3
    (ChangeSpec.witness6 (enc := enc) (C := Try.checked) false ⟨#[], #[.agg #[.int .i64 0, .bool false, .int .i64 0, .int .u32 0]], []⟩ 8 (by kernel_rfl) (by kernel_rfl) (by kernel_rfl) (by kernel_rfl)) ?_
  intro W base args ds gs before hval0 hW hcnd _
  have hval : ∀ (j : Nat) t v, Try.f3.params[j]? = some t → args[j]? = some v → Value.okWide Try.prog W .any base t v := hval0
  have hW' := hW
  obtain ⟨p, q, hA0, hV, rfl, hfz, hnd⟩ := hW
  have hA : DataW.TrodAll enc Try.prog W 0 (fun _ => true) true Try.f3.params.toList args.toList ds p := hA0
  rw [Try.params3] at hA hval
  obtain ⟨v0, vs0, d0, ds0, p0, q0, hargs, rfl, rfl, h0, r0⟩ := trodAll_cons hA
  obtain ⟨rfl, rfl, rfl⟩ := trodAll_nil r0
  obtain rfl : args = #[v0] := by cases args; simp_all
  obtain ⟨rfl, rfl⟩ := trodVars_none hV
  have k0 := h0
  have lt0 : ∀ x ∈ p0, x.block < W.heap.size := by obtain ⟨m, hm⟩ := k0; exact DataW.trod_lt m _ _ _ hm
  obtain ⟨x0, rfl, hl0, hh0⟩ := open_head (hval 0 24 v0 rfl rfl) h0
  clear hA0 hval0
  refine (walk x0 W hl0 hh0).mono fun e W' ⟨he, bel⟩ => ?_
  subst he
  exact ⟨_, rfl, _, _, _, [], _, [], hW', trodAll_mk1 (shut_bool Try.underlying4 _), (trodAll_cons_mk (Below.trod laidOut (by kernel_rfl) (of_decide_eq_true (by kernel_rfl)) k0 bel lt0) trodAll_mk0), rfl, bel.frame _, fun h => by cases h⟩

theorem over : Rows.headPagesRow.holds Try.pinned (OpenSpec.ofChange Rows.headPagesSpec) :=
  OpenClaim.holds_of_wide 3 Try.f3 rfl rfl rfl rfl rfl rfl rfl ⟨rfl, rfl, rfl, rfl, rfl⟩ rfl rfl rfl rfl rfl (by kernel_rfl) Try.func3 (by kernel_rfl)
    (of_decide_eq_true (by kernel_rfl)) (by unfold Func.isWrapper; first | (rw [if_pos (by decide +kernel)]; kernel_rfl) | (rw [if_neg (by decide +kernel)]; exact ⟨rfl, rfl⟩))
    (fun os started H enc _ => lifted os started H enc)

/-- THE STATEMENT -/
theorem proved : Rows.HeadPagesSaid := over
#print axioms proved
end Go.Proofs.Ytlbadfeobpnlcaa.headPages
