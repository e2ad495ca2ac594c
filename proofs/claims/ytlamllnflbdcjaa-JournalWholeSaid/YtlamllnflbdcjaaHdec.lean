/-
  The contract of head.Decode.
-/
import Derived.Test.YtlamllnflbdcjaaHread
import Derived.Test.YtlamllnflbdcjaaDopen
namespace Go.Proofs.Ytlamllnflbdcjaa
open Go.RowKit
open Dk (zeros zeros_length)
open Hd (Head rightB pageH)

theorem run_neq_not (w : World) (p q : List UInt8) (hp : p.length = 64) (hq : q.length = 64) (h : p ≠ q) : (binOp .neq 31 (pageV p) (pageV q)).run Try.prog w = .ok (.bool true) w := by
  rw [run_neq_page w p q hp hq, decide_eq_false h]; rfl
theorem rdS_box (w : World) (p : List UInt8) (h : Head) (hp : p.length = 64) : RdS w p h false ((w.alloc (.cells (byteVals p).toArray 31)).alloc (.cells #[.int .i64 0, .bool false, .int .i64 0, .int .u32 0] 73)) where
  page := (pageAt_new w p _ hp).alloc _
  res := by
    have := headAt_new (w.alloc (.cells (byteVals p).toArray 31)) Hd.zero 73
    have e : (w.alloc (.cells (byteVals p).toArray 31)).heap.size = w.heap.size + 1 := by simp
    rw [e] at this
    exact this
  below := ((Below.refl _ _).alloc (Nat.le_refl _) _).alloc (by simp) _

set_option maxRecDepth 100000 in
set_option maxHeartbeats 1000000 in
theorem decode_yes (p : List UInt8) (w : World) (hp : p.length = 64) (h : Hd.wholeB p = true) :
    Calls Try.prog 23 #[pageV p] w fun e w' => e = .returned (.tuple #[headV (Hd.readH p), .bool true]) ∧ Below w.heap.size w w' := by
  have HP := Lib.hid hp
  have hbd := Hd.read_bd p hp
  have HR := Lib.hid (fun (w : World) => hread_any p w hp)
  have HS := Lib.hid (rdS_box w p (Hd.readH p) hp)
  have HE : Hid (∀ w, Calls Try.prog 34 #[headV (Hd.readH p)] w fun e w' => e = .returned (.tuple #[pageV p, .int .i64 0]) ∧ Below w.heap.size w w') := Lib.hid (fun w => by
    have := encode_yes (Hd.readH p) w (Hd.whole_yes h).1 hbd.2.2.2.2.1 hbd.2.2.2.2.2
    rw [(Hd.whole_yes h).2] at this
    exact this)
  clear h
  have E1 := fun (x y : Operand) (w : World) => run_neGuard_page w x y p p
  have E2 := fun (w : World) => run_neq_same w p hp
  clear hp hbd
  generalize Hd.readH p = h at *
  unfold pageV
  go_enter Try.func23, Try.ntmps23
  go_wp2_with (with_reducible refine wpList_load_page HS.out.page rfl (.tmp 1) rfl rfl ?_)
  refine (HR.out _).mono ?_
  rintro e w2 ⟨rfl, hb2⟩
  have S2 := Lib.hid (HS.out.call hb2)
  clear HS HR hb2
  go_wp2_with (first
    | ((with_reducible refine wpList_store_newhead headT (h := h) rfl (.tmp 4) (.tmp 8) rfl rfl ?_ ?_ ?_); (exact rfl); (exact rfl); intro W3 hH hB3 hz3; have S3 := Lib.hid (S2.out.call hB3); have H3 := Lib.hid hH; clear S2 hH hB3 hz3; generalize w2.heap.size = C at H3 ⊢)
    | ((with_reducible refine wpList_load_head headT H3.out rfl (.tmp 4) rfl rfl ?_)))
  refine (HE.out _).mono ?_
  rintro e w4 ⟨rfl, hb4⟩
  have S4 := Lib.hid (S3.out.call hb4)
  have H4 := Lib.hid (H3.out.below hb4 H3.out.lt)
  clear S3 H3 hb4
  go_wp2_with (first
    | ((with_reducible refine wpList_store_new rfl (.tmp 5) (.tmp 12) rfl rfl ?_ ?_ HP.out ?_); (exact rfl); (exact rfl); intro W5 hP hB5 hz5; have S5 := Lib.hid (S4.out.call hB5); have H5 := Lib.hid (H4.out.below hB5 H4.out.lt); have P5 := Lib.hid hP; clear S4 H4 hP hB5 hz5; generalize w4.heap.size = D at P5 ⊢)
    | ((with_reducible refine wpList_load_guarded P5.out (.tmp 5) rfl rfl (by kernel_rfl) ?_))
    | ((with_reducible refine wpList_load_guarded S5.out.page (.tmp 1) rfl rfl (by kernel_rfl) ?_))
    | ((with_reducible refine wpList_load_head headT H5.out rfl (.tmp 4) rfl rfl ?_))
    | ((with_reducible refine wpList_store_head headT (h := h) S5.out.res rfl (.tmp 2) (.tmp 22) rfl rfl ?_ ?_); (exact rfl)))
  exact bodyPost_ret (results_head2 headT _ 2 3 rfl _ (S5.out.res.put _) rfl rfl) rfl ⟨rfl, below_setCells _ (by omega) _ _ _ S5.out.below⟩

set_option maxRecDepth 100000 in
set_option maxHeartbeats 1000000 in
theorem decode_bad (p : List UInt8) (w : World) (hp : p.length = 64) (h : rightB (Hd.readH p) = false) :
    Calls Try.prog 23 #[pageV p] w fun e w' => e = .returned (.tuple #[headV Hd.zero, .bool false]) ∧ Below w.heap.size w w' := by
  have HP := Lib.hid hp
  have hbd := Hd.read_bd p hp
  have HR := Lib.hid (fun (w : World) => hread_any p w hp)
  have HS := Lib.hid (rdS_box w p (Hd.readH p) hp)
  have HE := Lib.hid (fun (w : World) => encode_no (Hd.readH p) w h)
  clear h

  clear hp hbd
  generalize Hd.readH p = h at *
  unfold pageV
  go_enter Try.func23, Try.ntmps23
  go_wp2_with (with_reducible refine wpList_load_page HS.out.page rfl (.tmp 1) rfl rfl ?_)
  refine (HR.out _).mono ?_
  rintro e w2 ⟨rfl, hb2⟩
  have S2 := Lib.hid (HS.out.call hb2)
  clear HS HR hb2
  go_wp2_with (first
    | ((with_reducible refine wpList_store_newhead headT (h := h) rfl (.tmp 4) (.tmp 8) rfl rfl ?_ ?_ ?_); (exact rfl); (exact rfl); intro W3 hH hB3 hz3; have S3 := Lib.hid (S2.out.call hB3); have H3 := Lib.hid hH; clear S2 hH hB3 hz3; generalize w2.heap.size = C at H3 ⊢)
    | ((with_reducible refine wpList_load_head headT H3.out rfl (.tmp 4) rfl rfl ?_)))
  refine (HE.out _).mono ?_
  rintro e w4 ⟨rfl, hb4⟩
  have S4 := Lib.hid (S3.out.call hb4)
  have H4 := Lib.hid (H3.out.below hb4 H3.out.lt)
  clear S3 H3 hb4
  go_wp2_with (first
    | ((with_reducible refine wpList_store_new rfl (.tmp 5) (.tmp 12) rfl rfl ?_ ?_ zeros_length ?_); (exact rfl); (exact rfl); intro W5 hP hB5 hz5; have S5 := Lib.hid (S4.out.call hB5); have H5 := Lib.hid (H4.out.below hB5 H4.out.lt); have P5 := Lib.hid hP; clear S4 H4 hP hB5 hz5; generalize w4.heap.size = D at P5 ⊢)
    | ((with_reducible refine wpList_load_head headT H5.out rfl (.tmp 4) rfl rfl ?_))
    | ((with_reducible refine wpList_store_head headT (h := Hd.zero) S5.out.res rfl (.tmp 2) (.tmp 21) rfl rfl ?_ ?_); (exact rfl)))
  exact bodyPost_ret (results_head2 headT _ 2 3 rfl _ (S5.out.res.put _) rfl rfl) rfl ⟨rfl, below_setCells _ (by omega) _ _ _ S5.out.below⟩

set_option maxRecDepth 100000 in
set_option maxHeartbeats 1000000 in
theorem decode_torn (p : List UInt8) (w : World) (hp : p.length = 64) (h : rightB (Hd.readH p) = true) (hne : pageH (Hd.readH p) ≠ p) :
    Calls Try.prog 23 #[pageV p] w fun e w' => e = .returned (.tuple #[headV Hd.zero, .bool false]) ∧ Below w.heap.size w w' := by
  have HP := Lib.hid hp
  have hbd := Hd.read_bd p hp
  have HR := Lib.hid (fun (w : World) => hread_any p w hp)
  have HS := Lib.hid (rdS_box w p (Hd.readH p) hp)
  have HE := Lib.hid (fun (w : World) => encode_yes (Hd.readH p) w h hbd.2.2.2.2.1 hbd.2.2.2.2.2)
  have HQ := Lib.hid (Hd.pageH_length (Hd.readH p))
  clear h
  have E1 := fun (x y : Operand) (w : World) => run_neGuard_page w x y (pageH (Hd.readH p)) p
  have E2 := fun (w : World) => run_neq_not w (pageH (Hd.readH p)) p HQ.out hp hne
  clear hne
  clear hp hbd
  generalize Hd.readH p = h at *
  unfold pageV
  go_enter Try.func23, Try.ntmps23
  go_wp2_with (with_reducible refine wpList_load_page HS.out.page rfl (.tmp 1) rfl rfl ?_)
  refine (HR.out _).mono ?_
  rintro e w2 ⟨rfl, hb2⟩
  have S2 := Lib.hid (HS.out.call hb2)
  clear HS HR hb2
  go_wp2_with (first
    | ((with_reducible refine wpList_store_newhead headT (h := h) rfl (.tmp 4) (.tmp 8) rfl rfl ?_ ?_ ?_); (exact rfl); (exact rfl); intro W3 hH hB3 hz3; have S3 := Lib.hid (S2.out.call hB3); have H3 := Lib.hid hH; clear S2 hH hB3 hz3; generalize w2.heap.size = C at H3 ⊢)
    | ((with_reducible refine wpList_load_head headT H3.out rfl (.tmp 4) rfl rfl ?_)))
  refine (HE.out _).mono ?_
  rintro e w4 ⟨rfl, hb4⟩
  have S4 := Lib.hid (S3.out.call hb4)
  have H4 := Lib.hid (H3.out.below hb4 H3.out.lt)
  clear S3 H3 hb4
  go_wp2_with (first
    | ((with_reducible refine wpList_store_new rfl (.tmp 5) (.tmp 12) rfl rfl ?_ ?_ HQ.out ?_); (exact rfl); (exact rfl); intro W5 hP hB5 hz5; have S5 := Lib.hid (S4.out.call hB5); have H5 := Lib.hid (H4.out.below hB5 H4.out.lt); have P5 := Lib.hid hP; clear S4 H4 hP hB5 hz5; generalize w4.heap.size = D at P5 ⊢)
    | ((with_reducible refine wpList_load_guarded P5.out (.tmp 5) rfl rfl (by kernel_rfl) ?_))
    | ((with_reducible refine wpList_load_guarded S5.out.page (.tmp 1) rfl rfl (by kernel_rfl) ?_))
    | ((with_reducible refine wpList_load_head headT H5.out rfl (.tmp 4) rfl rfl ?_))
    | ((with_reducible refine wpList_store_head headT (h := Hd.zero) S5.out.res rfl (.tmp 2) (.tmp 21) rfl rfl ?_ ?_); (exact rfl)))
  exact bodyPost_ret (results_head2 headT _ 2 3 rfl _ (S5.out.res.put _) rfl rfl) rfl ⟨rfl, below_setCells _ (by omega) _ _ _ S5.out.below⟩

theorem decode_no (p : List UInt8) (w : World) (hp : p.length = 64) (h : Hd.wholeB p = false) :
    Calls Try.prog 23 #[pageV p] w fun e w' => e = .returned (.tuple #[headV Hd.zero, .bool false]) ∧ Below w.heap.size w w' := by
  cases hr : rightB (Hd.readH p) with
  | false => exact decode_bad p w hp hr
  | true =>
    refine decode_torn p w hp hr (fun e => ?_)
    unfold Hd.wholeB at h
    rw [hr, e] at h
    simp at h
theorem decode_any (p : List UInt8) (w : World) (hp : p.length = 64) :
    Calls Try.prog 23 #[pageV p] w fun e w' => e = .returned (.tuple #[headV (Hd.decH p), .bool (Hd.wholeB p)]) ∧ Below w.heap.size w w' := by
  unfold Hd.decH
  cases h : Hd.wholeB p with
  | true => exact decode_yes p w hp h
  | false => exact decode_no p w hp h
end Go.Proofs.Ytlamllnflbdcjaa
