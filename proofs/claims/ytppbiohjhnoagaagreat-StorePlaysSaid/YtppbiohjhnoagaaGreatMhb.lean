/-
  The contract of head.read.
-/
import Derived.Test.YtppbiohjhnoagaaGreatMha
import Derived.Test.YtppbiohjhnoagaaGreatMdb
import Derived.Deep.Slices
import Derived.IntWalk
namespace Go.Proofs.YtppbiohjhnoagaaGreat
open Go.RowKit
open Dk (zeros zeros_length)
open Hd (Head rightB pageH)

/-- what stands in memory while a page is read: the page; the head that is handed back, as it was made or as it is told -/
structure RdS (w0 : World) (p : List UInt8) (h : Head) (b : Bool) (W : World) : Prop where
  page : PageAt W w0.heap.size p
  res : HeadAt W (w0.heap.size + 1) (if b = true then h else Hd.zero)
  below : Below w0.heap.size w0 W
set_option maxRecDepth 100000 in
theorem RdS.call {w0 : World} {p : List UInt8} {h : Head} {b : Bool} {W W' : World} (k : RdS w0 p h b W) (hb : Below W.heap.size W W') : RdS w0 p h b W' :=
  ⟨k.page.below hb k.page.lt, k.res.below hb k.res.lt, k.below.trans (hb.mono k.below.size)⟩
set_option maxRecDepth 100000 in
theorem RdS.put {w0 : World} {p : List UInt8} {h : Head} {b : Bool} {W : World} (k : RdS w0 p h b W) : RdS w0 p h true (W.setCells (w0.heap.size + 1) 0 (headVals h)) :=
  ⟨k.page.put_other _ _ _ (by omega), k.res.put h, below_setCells _ (by omega) _ _ _ k.below⟩
set_option maxRecDepth 100000 in
theorem rdS_start (w : World) (p : List UInt8) (h : Head) (hp : p.length = 64) : RdS w p h false ((w.alloc (.cells (byteVals p).toArray 38)).alloc (.cells #[.int .i64 0, .bool false, .int .i64 0, .int .u32 0] 117)).drew where
  page := ((pageAt_new w p _ hp).alloc _).drew
  res := by
    have := headAt_new (w.alloc (.cells (byteVals p).toArray 38)) Hd.zero 117
    have e : (w.alloc (.cells (byteVals p).toArray 38)).heap.size = w.heap.size + 1 := by simp
    rw [e] at this
    exact this.drew
  below := (((Below.refl _ _).alloc (Nat.le_refl _) _).alloc (by simp) _).drew

set_option maxRecDepth 100000 in
theorem wrap_u32_in (v : Int) (h0 : 0 ≤ v) (h1 : v < 4294967296) : IntKind.u32.wrap v = v := by
  have e : IntKind.u32.wrap v = v % 4294967296 := by simp [IntKind.wrap, IntKind.bits, IntKind.signed]
  rw [e]; omega
set_option maxRecDepth 100000 in
set_option maxHeartbeats 1000000 in
theorem hread_any (p : List UInt8) (w : World) (hp : p.length = 64) :
    Calls Tryz.prog 84 #[pageV p] w fun e w' => e = .returned (headV (Hd.readH p)) ∧ Below w.heap.size w w' := by
  have G0 := Lib.hid (fun (w : World) => get_any p 0 4 w hp (by omega) (by omega))
  have G4 := Lib.hid (fun (w : World) => get_any p 4 1 w hp (by omega) (by omega))
  have G5 := Lib.hid (fun (w : World) => get_any p 5 2 w hp (by omega) (by omega))
  have G7 := Lib.hid (fun (w : World) => get_any p 7 4 w hp (by omega) (by omega))
  have hbd := Hd.read_bd p hp
  have HB : Hid (headV ⟨Pg.getN p 0 4, Pg.getN p 4 1 == 1, Pg.getN p 5 2, Pg.getN p 7 4⟩ = headV (Hd.readH p)) := Lib.hid rfl
  obtain ⟨_, _, _, _, k0, k1⟩ := hbd
  change 0 ≤ Pg.getN p 7 4 at k0
  change Pg.getN p 7 4 < 4294967296 at k1
  have HS := Lib.hid (rdS_start w p (Hd.readH p) hp)
  clear hp
  generalize Hd.readH p = h at HB HS ⊢
  generalize Pg.getN p 0 4 = g0 at G0 HB
  generalize Pg.getN p 4 1 = g4 at G4 HB
  generalize Pg.getN p 5 2 = g5 at G5 HB
  generalize Pg.getN p 7 4 = g7 at G7 HB k0 k1
  unfold headV at HB
  unfold pageV
  go_enter Tryz.func84, Tryz.ntmps84
  go_wp2_with fail
  refine wp_region_lin (RdS w p h) (fun i => i == 11) (fun i => [pageV p, .int .i64 g0, pageV p, .int .i64 g4, .bool (g4 == 1), pageV p, .int .i64 g5, pageV p, .int .i64 g7, .int .u32 g7, headV h].getD i undef) (false) (by kernel_rfl) (by kernel_rfl) (HS.out) ?_
  refine lin_step (i := 0) (d := some 3) (v := pageV p) rfl rfl (by kernel_rfl) (by kernel_rfl) rfl rfl (ord_page (by kernel_rfl) (.tmp 1) rfl rfl (fun _ _ hS => hS.page)) ?_
  (try simp only [Act.put, List.setIfInBounds_toArray, List.set_cons_zero, List.set_cons_succ])
  refine lin_step (i := 1) (d := some 4) (v := .int .i64 g0) rfl rfl (by kernel_rfl) (by kernel_rfl) rfl rfl (ord_call (f := 86) (args := #[pageV p, .int .i64 0, .int .i64 4]) (by kernel_rfl) ?_ (fun _ _ hS => (G0.out _).mono fun _ _ ⟨he, hb⟩ => ⟨he, hS.call hb⟩)) ?_
  · intro _; go_simp
  (try simp only [Act.put, List.setIfInBounds_toArray, List.set_cons_zero, List.set_cons_succ])
  refine lin_step (i := 2) (d := some 5) (v := pageV p) rfl rfl (by kernel_rfl) (by kernel_rfl) rfl rfl (ord_page (by kernel_rfl) (.tmp 1) rfl rfl (fun _ _ hS => hS.page)) ?_
  (try simp only [Act.put, List.setIfInBounds_toArray, List.set_cons_zero, List.set_cons_succ])
  refine lin_step (i := 3) (d := some 6) (v := .int .i64 g4) rfl rfl (by kernel_rfl) (by kernel_rfl) rfl rfl (ord_call (f := 86) (args := #[pageV p, .int .i64 4, .int .i64 1]) (by kernel_rfl) ?_ (fun _ _ hS => (G4.out _).mono fun _ _ ⟨he, hb⟩ => ⟨he, hS.call hb⟩)) ?_
  · intro _; go_simp
  (try simp only [Act.put, List.setIfInBounds_toArray, List.set_cons_zero, List.set_cons_succ])
  refine lin_step (i := 4) (d := some 7) (v := .bool (g4 == 1)) rfl rfl (by kernel_rfl) (by kernel_rfl) rfl rfl (ord_value (by kernel_rfl) ?_) ?_
  · intro _ _ _; go_simp
  (try simp only [Act.put, List.setIfInBounds_toArray, List.set_cons_zero, List.set_cons_succ])
  refine lin_step (i := 5) (d := some 8) (v := pageV p) rfl rfl (by kernel_rfl) (by kernel_rfl) rfl rfl (ord_page (by kernel_rfl) (.tmp 1) rfl rfl (fun _ _ hS => hS.page)) ?_
  (try simp only [Act.put, List.setIfInBounds_toArray, List.set_cons_zero, List.set_cons_succ])
  refine lin_step (i := 6) (d := some 9) (v := .int .i64 g5) rfl rfl (by kernel_rfl) (by kernel_rfl) rfl rfl (ord_call (f := 86) (args := #[pageV p, .int .i64 5, .int .i64 2]) (by kernel_rfl) ?_ (fun _ _ hS => (G5.out _).mono fun _ _ ⟨he, hb⟩ => ⟨he, hS.call hb⟩)) ?_
  · intro _; go_simp
  (try simp only [Act.put, List.setIfInBounds_toArray, List.set_cons_zero, List.set_cons_succ])
  refine lin_step (i := 7) (d := some 10) (v := pageV p) rfl rfl (by kernel_rfl) (by kernel_rfl) rfl rfl (ord_page (by kernel_rfl) (.tmp 1) rfl rfl (fun _ _ hS => hS.page)) ?_
  (try simp only [Act.put, List.setIfInBounds_toArray, List.set_cons_zero, List.set_cons_succ])
  refine lin_step (i := 8) (d := some 11) (v := .int .i64 g7) rfl rfl (by kernel_rfl) (by kernel_rfl) rfl rfl (ord_call (f := 86) (args := #[pageV p, .int .i64 7, .int .i64 4]) (by kernel_rfl) ?_ (fun _ _ hS => (G7.out _).mono fun _ _ ⟨he, hb⟩ => ⟨he, hS.call hb⟩)) ?_
  · intro _; go_simp
  (try simp only [Act.put, List.setIfInBounds_toArray, List.set_cons_zero, List.set_cons_succ])
  refine lin_step (i := 9) (d := some 12) (v := .int .u32 g7) rfl rfl (by kernel_rfl) (by kernel_rfl) rfl rfl (ord_value (by kernel_rfl) ?_) ?_
  · intro _ _ _; go_simp; exact wrap_u32_in _ k0 k1
  (try simp only [Act.put, List.setIfInBounds_toArray, List.set_cons_zero, List.set_cons_succ])
  refine lin_step (i := 10) (d := some 13) (v := headV h) rfl rfl (by kernel_rfl) (by kernel_rfl) rfl rfl (ord_value (by kernel_rfl) ?_) ?_
  · intro _ _ _; go_simp; exact HB.out
  (try simp only [Act.put, List.setIfInBounds_toArray, List.set_cons_zero, List.set_cons_succ])
  refine lin_turn (i := 11) (d := none) (fun u s => u = undef ∧ s = true) rfl rfl (by kernel_rfl) (by kernel_rfl) rfl (by kernel_rfl) (⟨_, _, rfl, rfl⟩) (by kernel_rfl) (fun W hS => gives_store_head headT hS.res (.tmp 2) (.tmp 13) rfl rfl rfl ⟨true, ⟨rfl, rfl⟩, hS.put⟩) ?_
  rintro _ _ ⟨rfl, rfl⟩
  (try simp only [Act.put])
  refine lin_done (by kernel_rfl) ?_
  intro W hS
  go_wp2_with fail
  exact bodyPost_ret (results_head headT _ 2 rfl _ hS.res rfl) rfl ⟨rfl, hS.below⟩
end Go.Proofs.YtppbiohjhnoagaaGreat

/-
  The contract of head.Decode.
-/
namespace Go.Proofs.YtppbiohjhnoagaaGreat
open Go.RowKit
open Dk (zeros zeros_length)
open Hd (Head rightB pageH)

set_option maxRecDepth 100000 in
theorem run_neq_not (w : World) (p q : List UInt8) (hp : p.length = 64) (hq : q.length = 64) (h : p ≠ q) : (binOp .neq 38 (pageV p) (pageV q)).run Tryz.prog w = .ok (.bool true) w := by
  rw [run_neq_page w p q hp hq, decide_eq_false h]; rfl
set_option maxRecDepth 100000 in
theorem rdS_box (w : World) (p : List UInt8) (h : Head) (hp : p.length = 64) : RdS w p h false ((w.alloc (.cells (byteVals p).toArray 38)).alloc (.cells #[.int .i64 0, .bool false, .int .i64 0, .int .u32 0] 117)) where
  page := (pageAt_new w p _ hp).alloc _
  res := by
    have := headAt_new (w.alloc (.cells (byteVals p).toArray 38)) Hd.zero 117
    have e : (w.alloc (.cells (byteVals p).toArray 38)).heap.size = w.heap.size + 1 := by simp
    rw [e] at this
    exact this
  below := ((Below.refl _ _).alloc (Nat.le_refl _) _).alloc (by simp) _

set_option maxRecDepth 100000 in
set_option maxHeartbeats 1000000 in
theorem decode_yes (p : List UInt8) (w : World) (hp : p.length = 64) (h : Hd.wholeB p = true) :
    Calls Tryz.prog 64 #[pageV p] w fun e w' => e = .returned (.tuple #[headV (Hd.readH p), .bool true]) ∧ Below w.heap.size w w' := by
  have HP := Lib.hid hp
  have hbd := Hd.read_bd p hp
  have HR := Lib.hid (fun (w : World) => hread_any p w hp)
  have HS := Lib.hid (rdS_box w p (Hd.readH p) hp)
  have HE : Hid (∀ w, Calls Tryz.prog 85 #[headV (Hd.readH p)] w fun e w' => e = .returned (.tuple #[pageV p, .int .i64 0]) ∧ Below w.heap.size w w') := Lib.hid (fun w => by
    have := encode_yes (Hd.readH p) w (Hd.whole_yes h).1 hbd.2.2.2.2.1 hbd.2.2.2.2.2
    rw [(Hd.whole_yes h).2] at this
    exact this)
  clear h
  have E1 := fun (x y : Operand) (w : World) => run_neGuard_page w x y p p
  have E2 := fun (w : World) => run_neq_same w p hp
  clear hp hbd
  generalize Hd.readH p = h at *
  unfold pageV
  go_enter Tryz.func64, Tryz.ntmps64
  go_wp2_with (with_reducible refine wpList_load_page HS.out.page rfl (.tmp 1) rfl rfl ?_)
  refine (HR.out _).mono ?_
  rintro e w2 ⟨rfl, hb2⟩
  have S2 := Lib.hid (HS.out.call hb2)
  clear HS HR hb2
  go_wp2_with (first
    | ((with_reducible refine wpList_store_newhead headT (h := h) rfl (.tmp 4) (.tmp 8) rfl rfl ?_ ?_ ?_); (exact rfl); (exact rfl); intro W3 hH hB3 hz3; have S3 := Lib.hid (S2.out.call hB3); have H3 := Lib.hid hH; clear S2 hH hB3 hz3; generalize w2.heap.size = C at H3 ⊢)
    | ((with_reducible refine wpList_load_head headT H3.out rfl (.tmp 4) rfl rfl ?_)))
  refine (HE.out _).mono ?_
  rintro e w4 ⟨rfl, hb4⟩
  have S4 := Lib.hid (S3.out.call hb4)
  have H4 := Lib.hid (H3.out.below hb4 H3.out.lt)
  clear S3 H3 hb4
  go_wp2_with (first
    | ((with_reducible refine wpList_store_new rfl (.tmp 5) (.tmp 12) rfl rfl ?_ ?_ HP.out ?_); (exact rfl); (exact rfl); intro W5 hP hB5 hz5; have S5 := Lib.hid (S4.out.call hB5); have H5 := Lib.hid (H4.out.below hB5 H4.out.lt); have P5 := Lib.hid hP; clear S4 H4 hP hB5 hz5; generalize w4.heap.size = D at P5 ⊢)
    | ((with_reducible refine wpList_load_guarded P5.out (.tmp 5) rfl rfl (by kernel_rfl) ?_))
    | ((with_reducible refine wpList_load_guarded S5.out.page (.tmp 1) rfl rfl (by kernel_rfl) ?_))
    | ((with_reducible refine wpList_load_head headT H5.out rfl (.tmp 4) rfl rfl ?_))
    | ((with_reducible refine wpList_store_head headT (h := h) S5.out.res rfl (.tmp 2) (.tmp 22) rfl rfl ?_ ?_); (exact rfl)))
  exact bodyPost_ret (results_head2 headT _ 2 3 rfl _ (S5.out.res.put _) rfl rfl) rfl ⟨rfl, below_setCells _ (by omega) _ _ _ S5.out.below⟩

set_option maxRecDepth 100000 in
set_option maxHeartbeats 1000000 in
theorem decode_bad (p : List UInt8) (w : World) (hp : p.length = 64) (h : rightB (Hd.readH p) = false) :
    Calls Tryz.prog 64 #[pageV p] w fun e w' => e = .returned (.tuple #[headV Hd.zero, .bool false]) ∧ Below w.heap.size w w' := by
  have HP := Lib.hid hp
  have hbd := Hd.read_bd p hp
  have HR := Lib.hid (fun (w : World) => hread_any p w hp)
  have HS := Lib.hid (rdS_box w p (Hd.readH p) hp)
  have HE := Lib.hid (fun (w : World) => encode_no (Hd.readH p) w h)
  clear h

  clear hp hbd
  generalize Hd.readH p = h at *
  unfold pageV
  go_enter Tryz.func64, Tryz.ntmps64
  go_wp2_with (with_reducible refine wpList_load_page HS.out.page rfl (.tmp 1) rfl rfl ?_)
  refine (HR.out _).mono ?_
  rintro e w2 ⟨rfl, hb2⟩
  have S2 := Lib.hid (HS.out.call hb2)
  clear HS HR hb2
  go_wp2_with (first
    | ((with_reducible refine wpList_store_newhead headT (h := h) rfl (.tmp 4) (.tmp 8) rfl rfl ?_ ?_ ?_); (exact rfl); (exact rfl); intro W3 hH hB3 hz3; have S3 := Lib.hid (S2.out.call hB3); have H3 := Lib.hid hH; clear S2 hH hB3 hz3; generalize w2.heap.size = C at H3 ⊢)
    | ((with_reducible refine wpList_load_head headT H3.out rfl (.tmp 4) rfl rfl ?_)))
  refine (HE.out _).mono ?_
  rintro e w4 ⟨rfl, hb4⟩
  have S4 := Lib.hid (S3.out.call hb4)
  have H4 := Lib.hid (H3.out.below hb4 H3.out.lt)
  clear S3 H3 hb4
  go_wp2_with (first
    | ((with_reducible refine wpList_store_new rfl (.tmp 5) (.tmp 12) rfl rfl ?_ ?_ zeros_length ?_); (exact rfl); (exact rfl); intro W5 hP hB5 hz5; have S5 := Lib.hid (S4.out.call hB5); have H5 := Lib.hid (H4.out.below hB5 H4.out.lt); have P5 := Lib.hid hP; clear S4 H4 hP hB5 hz5; generalize w4.heap.size = D at P5 ⊢)
    | ((with_reducible refine wpList_load_head headT H5.out rfl (.tmp 4) rfl rfl ?_))
    | ((with_reducible refine wpList_store_head headT (h := Hd.zero) S5.out.res rfl (.tmp 2) (.tmp 21) rfl rfl ?_ ?_); (exact rfl)))
  exact bodyPost_ret (results_head2 headT _ 2 3 rfl _ (S5.out.res.put _) rfl rfl) rfl ⟨rfl, below_setCells _ (by omega) _ _ _ S5.out.below⟩

set_option maxRecDepth 100000 in
set_option maxHeartbeats 1000000 in
theorem decode_torn (p : List UInt8) (w : World) (hp : p.length = 64) (h : rightB (Hd.readH p) = true) (hne : pageH (Hd.readH p) ≠ p) :
    Calls Tryz.prog 64 #[pageV p] w fun e w' => e = .returned (.tuple #[headV Hd.zero, .bool false]) ∧ Below w.heap.size w w' := by
  have HP := Lib.hid hp
  have hbd := Hd.read_bd p hp
  have HR := Lib.hid (fun (w : World) => hread_any p w hp)
  have HS := Lib.hid (rdS_box w p (Hd.readH p) hp)
  have HE := Lib.hid (fun (w : World) => encode_yes (Hd.readH p) w h hbd.2.2.2.2.1 hbd.2.2.2.2.2)
  have HQ := Lib.hid (Hd.pageH_length (Hd.readH p))
  clear h
  have E1 := fun (x y : Operand) (w : World) => run_neGuard_page w x y (pageH (Hd.readH p)) p
  have E2 := fun (w : World) => run_neq_not w (pageH (Hd.readH p)) p HQ.out hp hne
  clear hne
  clear hp hbd
  generalize Hd.readH p = h at *
  unfold pageV
  go_enter Tryz.func64, Tryz.ntmps64
  go_wp2_with (with_reducible refine wpList_load_page HS.out.page rfl (.tmp 1) rfl rfl ?_)
  refine (HR.out _).mono ?_
  rintro e w2 ⟨rfl, hb2⟩
  have S2 := Lib.hid (HS.out.call hb2)
  clear HS HR hb2
  go_wp2_with (first
    | ((with_reducible refine wpList_store_newhead headT (h := h) rfl (.tmp 4) (.tmp 8) rfl rfl ?_ ?_ ?_); (exact rfl); (exact rfl); intro W3 hH hB3 hz3; have S3 := Lib.hid (S2.out.call hB3); have H3 := Lib.hid hH; clear S2 hH hB3 hz3; generalize w2.heap.size = C at H3 ⊢)
    | ((with_reducible refine wpList_load_head headT H3.out rfl (.tmp 4) rfl rfl ?_)))
  refine (HE.out _).mono ?_
  rintro e w4 ⟨rfl, hb4⟩
  have S4 := Lib.hid (S3.out.call hb4)
  have H4 := Lib.hid (H3.out.below hb4 H3.out.lt)
  clear S3 H3 hb4
  go_wp2_with (first
    | ((with_reducible refine wpList_store_new rfl (.tmp 5) (.tmp 12) rfl rfl ?_ ?_ HQ.out ?_); (exact rfl); (exact rfl); intro W5 hP hB5 hz5; have S5 := Lib.hid (S4.out.call hB5); have H5 := Lib.hid (H4.out.below hB5 H4.out.lt); have P5 := Lib.hid hP; clear S4 H4 hP hB5 hz5; generalize w4.heap.size = D at P5 ⊢)
    | ((with_reducible refine wpList_load_guarded P5.out (.tmp 5) rfl rfl (by kernel_rfl) ?_))
    | ((with_reducible refine wpList_load_guarded S5.out.page (.tmp 1) rfl rfl (by kernel_rfl) ?_))
    | ((with_reducible refine wpList_load_head headT H5.out rfl (.tmp 4) rfl rfl ?_))
    | ((with_reducible refine wpList_store_head headT (h := Hd.zero) S5.out.res rfl (.tmp 2) (.tmp 21) rfl rfl ?_ ?_); (exact rfl)))
  exact bodyPost_ret (results_head2 headT _ 2 3 rfl _ (S5.out.res.put _) rfl rfl) rfl ⟨rfl, below_setCells _ (by omega) _ _ _ S5.out.below⟩

set_option maxRecDepth 100000 in
theorem decode_no (p : List UInt8) (w : World) (hp : p.length = 64) (h : Hd.wholeB p = false) :
    Calls Tryz.prog 64 #[pageV p] w fun e w' => e = .returned (.tuple #[headV Hd.zero, .bool false]) ∧ Below w.heap.size w w' := by
  cases hr : rightB (Hd.readH p) with
  | false => exact decode_bad p w hp hr
  | true =>
    refine decode_torn p w hp hr (fun e => ?_)
    unfold Hd.wholeB at h
    rw [hr, e] at h
    simp at h
set_option maxRecDepth 100000 in
theorem decode_any (p : List UInt8) (w : World) (hp : p.length = 64) :
    Calls Tryz.prog 64 #[pageV p] w fun e w' => e = .returned (.tuple #[headV (Hd.decH p), .bool (Hd.wholeB p)]) ∧ Below w.heap.size w w' := by
  unfold Hd.decH
  cases h : Hd.wholeB p with
  | true => exact decode_yes p w hp h
  | false => exact decode_no p w hp h
end Go.Proofs.YtppbiohjhnoagaaGreat

/-
  Rows of pages and of bytes in memory; a slice of bytes, opened.
-/
namespace Go.Proofs.YtppbiohjhnoagaaGreat
open Go.ChangeShapes Go.WideShapes Go.ChangeAt Go.RowKit
open Dk (zeros zeros_length)

set_option maxRecDepth 100000 in
theorem list_of {α : Type} (P : Nat → α → Prop) : ∀ (n : Nat), (∀ i, i < n → ∃ a, P i a) → ∃ l : List α, l.length = n ∧ ∀ i, i < n → ∃ a, l[i]? = some a ∧ P i a
  | 0, _ => ⟨[], rfl, fun i hi => by omega⟩
  | n + 1, h => by
    obtain ⟨l, hl, hp⟩ := list_of P n (fun i hi => h i (by omega))
    obtain ⟨a, ha⟩ := h n (by omega)
    refine ⟨l ++ [a], by simp [hl], fun i hi => ?_⟩
    rcases Nat.lt_or_ge i n with hlt | hge
    · obtain ⟨x, hx, hpx⟩ := hp i hlt
      exact ⟨x, by rw [List.getElem?_append_left (by omega)]; exact hx, hpx⟩
    · obtain rfl : i = n := by omega
      exact ⟨a, by rw [List.getElem?_append_right (by omega), hl, Nat.sub_self]; rfl, ha⟩
/-- a row of pages in memory -/
structure PageRow (w : World) (A : Option Addr) (n : Nat) (ps : List (List UInt8)) : Prop where
  len : ps.length = n
  small : n ≤ maxLen
  size : ∀ p ∈ ps, p.length = 64
  cells : 0 < n → ∃ b off, A = some ⟨b, off, none⟩ ∧ b < w.heap.size ∧ ∀ i p, ps[i]? = some p → w.rangeAt b (off + i * 64) (byteVals p)
set_option maxRecDepth 100000 in
theorem PageRow.below {N : Nat} {w w' : World} {A : Option Addr} {n : Nat} {ps : List (List UInt8)} (h : PageRow w A n ps) (hb : Below N w w') (hN : ∀ b off, A = some ⟨b, off, none⟩ → b < N) : PageRow w' A n ps where
  len := h.len
  small := h.small
  size := h.size
  cells := fun hn => by
    obtain ⟨b, off, rfl, hlt, hc⟩ := h.cells hn
    have hbn := hN b off rfl
    exact ⟨b, off, rfl, Nat.lt_of_lt_of_le hlt hb.size, fun i p hi j v hv => (hb.cell (p := ⟨b, off + i * 64 + j, none⟩) hbn).trans (hc i p hi j v hv)⟩
set_option maxRecDepth 100000 in
theorem PageRow.step {w w' : World} {A : Option Addr} {n : Nat} {ps : List (List UInt8)} (h : PageRow w A n ps) (hb : Below w.heap.size w w') : PageRow w' A n ps where
  len := h.len
  small := h.small
  size := h.size
  cells := fun hn => by
    obtain ⟨b, off, rfl, hlt, hc⟩ := h.cells hn
    exact ⟨b, off, rfl, Nat.lt_of_lt_of_le hlt hb.size, fun i p hi j v hv => (hb.cell (p := ⟨b, off + i * 64 + j, none⟩) hlt).trans (hc i p hi j v hv)⟩
/-! ### bytes -/
structure ByteRow (w : World) (A : Option Addr) (n c : Nat) (bs : List UInt8) : Prop where
  len : bs.length = n
  room : n ≤ c
  small : n ≤ maxLen
  cells : 0 < n → ∃ b off, A = some ⟨b, off, none⟩ ∧ b < w.heap.size ∧ ∀ j, j < n → w.cell? ⟨b, off + j, none⟩ = some (.int .u8 ((bs.getD j 0).toNat : Int))
set_option maxRecDepth 100000 in
theorem ByteRow.below {w w' : World} {A : Option Addr} {n c : Nat} {bs : List UInt8} (h : ByteRow w A n c bs) (hb : Below w.heap.size w w') : ByteRow w' A n c bs where
  len := h.len
  room := h.room
  small := h.small
  cells := fun h0 => by
    obtain ⟨b, off, rfl, hlt, hc⟩ := h.cells h0
    exact ⟨b, off, rfl, Nat.lt_of_lt_of_le hlt hb.size, fun j hj => (hb.cell (p := ⟨b, off + j, none⟩) hlt).trans (hc j hj)⟩
set_option maxRecDepth 100000 in
/-- for a crash: behind what the call has made -/
theorem ByteRow.keep {w W : World} {A : Option Addr} {n c : Nat} {bs : List UInt8} {L : List Nat} (h : ByteRow w A n c bs) (hn : n ≤ 1000) (hb : Below w.heap.size w W) (hL : ∀ k ∈ L, w.heap.size ≤ k) : KeepAt W A c bs L where
  small := by rw [h.len]; exact hn
  room := by rw [h.len]; exact h.room
  cells := fun h0 => by
    obtain ⟨b, off, e, hlt, hc⟩ := h.cells (by rw [h.len] at h0; exact h0)
    exact ⟨b, off, e, Nat.lt_of_lt_of_le hlt hb.size, fun q => by have := hL _ q; omega, fun j hj => (hb.cell (p := ⟨b, off + j, none⟩) hlt).trans (hc j (by rw [h.len] at hj; exact hj))⟩
set_option maxRecDepth 100000 in
theorem cellsB : Tryz.prog.cellsOf 39 = 1 := by kernel_rfl
set_option maxRecDepth 100000 in
theorem bytes_cells {H : Type} {enc : TypeId × Value → H} {W : World} {fuel : Nat} {cs : List Value} {x : DataW H × List MemPlace} (ht : DataW.trod enc Tryz.prog W 0 (fun _ => true) true fuel 39 cs = some x) :
    ∃ A n c bs, cs = [.slice A n c] ∧ ByteRow W A n c bs := by
  rcases Go.Deep.open_slice Tryz.underlying39 ht with ⟨hcs, _⟩ | ⟨a, len, cap, m, k, D, Pl, hcs, _, hl, hm, hmm, _, hi⟩
  · exact ⟨none, 0, 0, [], hcs, rfl, Nat.le_refl _, by unfold maxLen; omega, fun h => by omega⟩
  · simp only [if_true] at hmm
    have each : ∀ i, i < len → ∃ q : UInt8, W.cell? (a.add i) = some (.int .u8 (q.toNat : Int)) := by
      intro i hin
      obtain ⟨cs', hc, ht'⟩ := hi i (by omega)
      rw [cells8, Nat.mul_one] at hc
      obtain ⟨v, hv, _, hw⟩ := DataW.trod_int Tryz.underlying5 ht'
      have hb := bounds_u8 hw
      obtain ⟨_, _, hat⟩ := World.cells?_some hc
      have h0 := hat 0 (by omega)
      rw [hv] at h0
      refine ⟨UInt8.ofNat v.toNat, ?_⟩
      have e0 : (a.add i).add 0 = a.add i := by unfold Addr.add; cases a.spot <;> simp
      rw [e0] at h0
      rw [h0, UInt8.toNat_ofNat']
      show some (Value.int .u8 v) = _
      congr 2
      omega
    obtain ⟨bs, hbl, hbs⟩ := list_of _ len each
    refine ⟨some a, len, cap, bs, hcs, hbl, hl, by omega, fun h0 => ?_⟩
    have hget : ∀ i, i < len → W.cell? (a.add i) = some (.int .u8 ((bs.getD i 0).toNat : Int)) := fun i hin => by
      obtain ⟨q, hq, h1⟩ := hbs i hin
      rw [List.getD_eq_getElem?_getD, hq]; exact h1
    obtain ⟨b, off, spot⟩ := a
    have hcell0 := hget 0 h0
    have hspot : spot = none := by simpa [Addr.add] using World.cell?_spot hcell0
    subst hspot
    refine ⟨b, off, rfl, ?_, fun j hj => ?_⟩
    · rw [Addr.add_mid] at hcell0
      exact World.block_lt_of_cell? W _ hcell0
    · have := hget j hj
      rwa [Addr.add_mid] at this
set_option maxRecDepth 100000 in
theorem open_bytes {H : Type} {enc : TypeId × Value → H} {W : World} {base : Nat} {v : Value} {d : DataW H} {p : List MemPlace} (hv : Value.okWide Tryz.prog W .any base 39 v)
    (h : DataW.Trod enc Tryz.prog W 0 (fun _ => true) true 39 v d p) : ∃ A n c bs, v = .slice A n c ∧ ByteRow W A n c bs := by
  obtain ⟨A, n, c, rfl⟩ := okWide_slice Tryz.underlying39 hv
  obtain ⟨fuel, hf⟩ := h
  obtain ⟨A', n', c', bs, e, hb⟩ := bytes_cells hf
  simp [Value.cells] at e
  obtain ⟨rfl, rfl, rfl⟩ := e
  exact ⟨_, _, _, bs, rfl, hb⟩
end Go.Proofs.YtppbiohjhnoagaaGreat

/-
  The contracts of head.Next and of the document's own Next.
-/
namespace Go.Proofs.YtppbiohjhnoagaaGreat
open Go.RowKit
open Dk (zeros zeros_length)
open Hd (Head rightB pageH)

set_option maxRecDepth 100000 in
theorem wpList_load_at {ops : Array Oper} {rest : List Oper} {op : Oper} {a : Act} {Q : Exit → Act → World → Prop} {w : World} {b o : Nat} {p : List UInt8} (hr : w.rangeAt b o (byteVals p)) (hp : p.length = 64) (hgd : op.guard = none) (x : Operand) (ho : op.op = .load 38 x)
    (hx : a.eval x = .pointer (some ⟨b, o, none⟩)) (h : wpList Tryz.prog ops Q rest (a.put op.dst (pageV p)) w) : wpList Tryz.prog ops Q (op :: rest) a w :=
  wpList_load_mid hgd 38 x ho b o hx (byteVals p) _ hr Tryz.underlying38 rfl (by rw [page_info, byteVals_length, hp]) h
set_option maxRecDepth 100000 in
theorem take_more {α : Type} (l : List α) (k : Nat) (a : α) (h : l[k]? = some a) : l.take (k + 1) = l.take k ++ [a] := by
  obtain ⟨hk, he⟩ := List.getElem?_eq_some_iff.1 h
  rw [List.take_succ_eq_append_getElem hk, he]

/-- what stands in memory in a round: the row, and the page of this round -/
def NxR (w0 : World) (A : Option Addr) (n : Nat) (ps : List (List UInt8)) (W : World) : Prop := PageRow W A n ps ∧ Below w0.heap.size w0 W
set_option maxRecDepth 100000 in
theorem NxR.call {w0 : World} {A : Option Addr} {n : Nat} {ps : List (List UInt8)} {W W' : World} (k : NxR w0 A n ps W) (hb : Below W.heap.size W W') : NxR w0 A n ps W' := ⟨k.1.step hb, k.2.trans (hb.mono k.2.size)⟩
set_option maxRecDepth 100000 in
theorem PageRow.drew {w : World} {A : Option Addr} {n : Nat} {ps : List (List UInt8)} (h : PageRow w A n ps) : PageRow w.drew A n ps where
  len := h.len
  small := h.small
  size := h.size
  cells := fun hn => by
    obtain ⟨b, off, e, hlt, hc⟩ := h.cells hn
    exact ⟨b, off, e, hlt, fun i p hi => (World.rangeAt_drew ..).2 (hc i p hi)⟩
set_option maxRecDepth 100000 in
theorem NxR.drew {w0 : World} {A : Option Addr} {n : Nat} {ps : List (List UInt8)} {W : World} (k : NxR w0 A n ps W) : NxR w0 A n ps W.drew := ⟨k.1.drew, k.2.drew⟩
def NxS (w0 : World) (A : Option Addr) (n : Nat) (ps : List (List UInt8)) (B : Nat) (p : List UInt8) (W : World) : Prop := NxR w0 A n ps W ∧ PageAt W B p
set_option maxRecDepth 100000 in
theorem NxS.call {w0 : World} {A : Option Addr} {n : Nat} {ps : List (List UInt8)} {B : Nat} {p : List UInt8} {W W' : World} (k : NxS w0 A n ps B p W) (hb : Below W.heap.size W W') : NxS w0 A n ps B p W' := ⟨NxR.call k.1 hb, k.2.below hb k.2.lt⟩

set_option maxRecDepth 100000 in
set_option maxHeartbeats 2000000 in
theorem next_any (A : Option Addr) (n c : Nat) (ps : List (List UInt8)) (w : World) (hrow : PageRow w A n ps) :
    Calls Tryz.prog 66 #[.slice A n c] w fun e w' => e = .returned (.int .i64 (Hd.nextN ps)) ∧ Below w.heap.size w w' := by
  have hn := hrow.small
  unfold maxLen at hn
  have HR : Hid (NxR w A n ps w) := Lib.hid ⟨hrow, Below.refl _ _⟩
  have HL := Lib.hid hrow.len
  have HZ := Lib.hid hrow.size
  clear hrow
  go_enter Tryz.func66, Tryz.ntmps66
  go_wp2_with fail
  go_loopw [3, 8] (fun x i wr => ∃ k : Nat, k ≤ n ∧ i = .int .i64 k ∧ x = .int .i64 (Hd.nextN (ps.take k)) ∧ NxR w A n ps wr) (fun _ i _ => n - (intOf i).toNat)
  case atStart => exact ⟨0, Nat.zero_le _, rfl, rfl, HR.out⟩
  case round =>
    obtain ⟨k, hk, rfl, rfl, hnx⟩ := hrel
    have HX := Lib.hid hnx
    clear hnx HR
    by_cases hlt : k < n
    · obtain ⟨b, off, rfl, hb, hc⟩ := HX.out.1.cells (by omega)
      obtain ⟨p, hp⟩ : ∃ p, ps[k]? = some p := ⟨_, List.getElem?_eq_getElem (by rw [HL.out]; exact hlt)⟩
      have HP := Lib.hid (hc k p hp)
      have HPL := Lib.hid (HZ.out p (List.mem_of_getElem? hp))
      have HT := Lib.hid (take_more ps k p hp)
      have G0 := Lib.hid (fun (w : World) => get_any p 0 4 w HPL.out (by omega) (by omega))
      have G6 := Lib.hid (fun (w : World) => get_any p 60 4 w HPL.out (by omega) (by omega))
      have hbd := Hd.get_bd p HPL.out
      have HU : Hid (Hd.nextN (ps.take (k + 1)) = max (max (Hd.nextN (ps.take k)) (Pg.getN p 0 4 + 1)) (Pg.getN p 60 4 + 1)) := Lib.hid (by rw [HT.out, Hd.nextN_snoc]; rfl)
      have hx0 := Hd.nextN_nonneg (ps.take k)
      have hx1 := Hd.nextN_top (ps.take k) (fun q hq => HZ.out q (List.mem_of_mem_take hq))
      clear hc hp hb HT
      generalize Hd.nextN (ps.take k) = x at HU hx0 hx1 ⊢
      generalize Pg.getN p 0 4 = g0 at G0 HU hbd
      generalize Pg.getN p 60 4 = g6 at G6 HU hbd
      obtain ⟨b1, b2, b3, b4⟩ := hbd
      have w1 : IntKind.i64.wrap (g0 + 1) = g0 + 1 := IntWalk.i64_in _ (by omega)
      have w2 : IntKind.i64.wrap (g6 + 1) = g6 + 1 := IntWalk.i64_in _ (by omega)
      have hk0 : (0 : Int) ≤ (k : Int) := by omega
      have hk1 : (k : Int) < (n : Int) := by omega
      go_wp2_with (first
        | ((with_reducible refine wpList_load_at HP.out HPL.out rfl (.tmp 10) rfl ?_ ?_); (exact rfl))
        | ((with_reducible refine wpList_store_new rfl (.tmp 5) (.tmp 11) rfl rfl ?_ ?_ HPL.out ?_); (exact rfl); (exact rfl); intro W2 hP hB2 hz2; have S2 : Hid (NxS w (some ⟨b, off, none⟩) n ps wr.heap.size p W2) := Lib.hid ⟨NxR.call HX.out hB2, hP⟩; clear HX hP hB2 hz2; generalize wr.heap.size = B at S2 ⊢))
      obtain ⟨y, hy⟩ : ∃ y, max (max x (g0 + 1)) (g6 + 1) = y := ⟨_, rfl⟩
      have HY := Lib.hid hy
      clear hy
      refine wp_region_lin (fun (_ : Unit) => NxS w (some ⟨b, off, none⟩) n ps B p) (fun _ => false) (fun i => [.int .i64 x, pageV p, .int .i64 g0, .int .i64 (g0 + 1), pageV p, .int .i64 g6, .int .i64 (g6 + 1), .int .i64 y, .int .i64 y].getD i undef) (()) (by kernel_rfl) (by kernel_rfl) (⟨S2.out.1.drew, S2.out.2.drew⟩) ?_
      refine lin_step (i := 0) (d := some 12) (v := .int .i64 x) rfl rfl (by kernel_rfl) (by kernel_rfl) rfl rfl (ord_value (by kernel_rfl) ?_) ?_
      · intro _ _ _; go_simp
      (try simp only [Act.put, List.setIfInBounds_toArray, List.set_cons_zero, List.set_cons_succ])
      refine lin_step (i := 1) (d := some 13) (v := pageV p) rfl rfl (by kernel_rfl) (by kernel_rfl) rfl rfl (ord_page (by kernel_rfl) (.tmp 5) rfl rfl (fun _ _ hS => hS.2)) ?_
      (try simp only [Act.put, List.setIfInBounds_toArray, List.set_cons_zero, List.set_cons_succ])
      refine lin_step (i := 2) (d := some 14) (v := .int .i64 g0) rfl rfl (by kernel_rfl) (by kernel_rfl) rfl rfl (ord_call (f := 86) (args := #[pageV p, .int .i64 0, .int .i64 4]) (by kernel_rfl) ?_ (fun _ _ hS => (G0.out _).mono fun _ _ ⟨he, hb⟩ => ⟨he, NxS.call hS hb⟩)) ?_
      · intro _; go_simp
      (try simp only [Act.put, List.setIfInBounds_toArray, List.set_cons_zero, List.set_cons_succ])
      refine lin_step (i := 3) (d := some 15) (v := .int .i64 (g0 + 1)) rfl rfl (by kernel_rfl) (by kernel_rfl) rfl rfl (ord_value (by kernel_rfl) ?_) ?_
      · intro _ _ _; go_simp
      (try simp only [Act.put, List.setIfInBounds_toArray, List.set_cons_zero, List.set_cons_succ])
      refine lin_step (i := 4) (d := some 16) (v := pageV p) rfl rfl (by kernel_rfl) (by kernel_rfl) rfl rfl (ord_page (by kernel_rfl) (.tmp 5) rfl rfl (fun _ _ hS => hS.2)) ?_
      (try simp only [Act.put, List.setIfInBounds_toArray, List.set_cons_zero, List.set_cons_succ])
      refine lin_step (i := 5) (d := some 17) (v := .int .i64 g6) rfl rfl (by kernel_rfl) (by kernel_rfl) rfl rfl (ord_call (f := 86) (args := #[pageV p, .int .i64 60, .int .i64 4]) (by kernel_rfl) ?_ (fun _ _ hS => (G6.out _).mono fun _ _ ⟨he, hb⟩ => ⟨he, NxS.call hS hb⟩)) ?_
      · intro _; go_simp
      (try simp only [Act.put, List.setIfInBounds_toArray, List.set_cons_zero, List.set_cons_succ])
      refine lin_step (i := 6) (d := some 18) (v := .int .i64 (g6 + 1)) rfl rfl (by kernel_rfl) (by kernel_rfl) rfl rfl (ord_value (by kernel_rfl) ?_) ?_
      · intro _ _ _; go_simp
      (try simp only [Act.put, List.setIfInBounds_toArray, List.set_cons_zero, List.set_cons_succ])
      refine lin_step (i := 7) (d := some 19) (v := .int .i64 y) rfl rfl (by kernel_rfl) (by kernel_rfl) rfl rfl (ord_value (by kernel_rfl) ?_) ?_
      · intro _ _ _; go_simp; (rw [← HY.out]; (repeat' split) <;> omega)
      (try simp only [Act.put, List.setIfInBounds_toArray, List.set_cons_zero, List.set_cons_succ])
      refine lin_step (i := 8) (d := some 3) (v := .int .i64 y) rfl rfl (by kernel_rfl) (by kernel_rfl) rfl rfl (ord_value (by kernel_rfl) ?_) ?_
      · intro _ _ _; go_simp
      (try simp only [Act.put, List.setIfInBounds_toArray, List.set_cons_zero, List.set_cons_succ])
      refine lin_done (by kernel_rfl) ?_
      intro W3 hS
      have S3 := Lib.hid hS
      clear hS S2 w1 w2
      go_wp2_with fail
      go_roundw
      case rel => exact ⟨k + 1, by omega, by go_num, by rw [HU.out, HY.out], S3.out.1⟩
      case measure => simp [intOf]; omega
    · have HK : Hid (ps.take k = ps) := Lib.hid (List.take_of_length_le (by rw [HL.out]; omega))
      go_wp2_with fail
      go_ret
      exact ⟨ret_int (by rw [HK.out]), HX.out.2⟩

section
variable {ops : Array Oper} {σ : Type} {S : σ → World → Prop}
set_option maxRecDepth 100000 in
theorem ord_page_at {o : Oper} {a : Act} {b f : Nat} {p : List UInt8} (hw : Region.wanted o (yielded ops a.tmps) = true) (x : Operand) (ho : o.op = .load 38 x) (hx : a.eval x = .pointer (some ⟨b, f, none⟩)) (hp : p.length = 64) (hS : ∀ s w, S s w → w.rangeAt b f (byteVals p)) :
    OrdAt Tryz.prog ops S o (pageV p) a :=
  ord_value hw fun s w hs => by
    unfold execOp
    have := run_loadVar_mid (P := Tryz.prog) w b f 38 (byteVals p) _ (hS s w hs) Tryz.underlying38 rfl (by rw [page_info, byteVals_length, hp])
    rw [pageV_def] at this
    simp only [ho, hx, Instr.loadAt, Instr.sureAddr, Sem.run_bind, Sem.run_pure, Result.andThen_ok, this]
end
end Go.Proofs.YtppbiohjhnoagaaGreat
