/-
  The project's own write: an instruction's bytes.
-/
import Derived.Test.YteobdjgodljjmaaYis
import Derived.Test.YteobdjgodljjmaaYsaid
import Derived.Test.YteobdjgodljjmaaQPbuild
namespace Go.Proofs.Yteobdjgodljjmaa
open Go.RowKit Go.Maps
open Pq (PageAt pageV byteVals set_any text_any wpList_load_page wpList_store_page wpList_store_new zeroCells zeroCells_def)
open Pq.Dk (zeros zeros_length)
open Pq.Pg (setN textN setN_length)

/-- an instruction, boxed, and a page in a block of its own -/
structure WrS (w0 : World) (B C : Nat) (x : Y.In) (p : List UInt8) (W : World) : Prop where
  box : BoxS w0 B x W
  page : PageAt W C p
  far : B ≠ C ∧ w0.heap.size ≤ C
theorem WrS.call {w0 : World} {B C : Nat} {x : Y.In} {p : List UInt8} {W W' : World} (k : WrS w0 B C x p W) (hb : Below W.heap.size W W') : WrS w0 B C x p W' := ⟨k.box.call hb, k.page.below hb k.page.lt, k.far⟩
theorem WrS.store {w0 : World} {B C : Nat} {x : Y.In} {p q : List UInt8} {W : World} (k : WrS w0 B C x p W) (hq : q.length = 64) : WrS w0 B C x q (W.setCells C 0 (byteVals q)) :=
  ⟨⟨k.box.row.put_other C 0 _ k.far.1, below_setCells _ k.far.2 _ _ _ k.box.bel⟩, k.page.put _ hq, k.far⟩
theorem WrS.start {w0 : World} {x : Y.In} {p : List UInt8} {w w2 : World} (S : BoxS w0 w0.heap.size x w) (hP : PageAt w2 w.heap.size p) (hb : Below w.heap.size w w2) : WrS w0 w0.heap.size w.heap.size x p w2 :=
  ⟨S.call hb, hP, by have := S.row.lt; omega, S.bel.size⟩
theorem WrS.cells {w0 : World} {B C : Nat} {x : Y.In} {p : List UInt8} {W : World} (k : WrS w0 B C x p W) : W.cell? ⟨B, 0, none⟩ = some (.int .i64 x.op) ∧ W.cell? ⟨B, 1, none⟩ = some (.int .i64 x.dst) ∧ W.cell? ⟨B, 2, none⟩ = some (.int .i64 x.src) ∧ W.cell? ⟨B, 3, none⟩ = some (.int .i64 x.off) ∧ W.cell? ⟨B, 4, none⟩ = some (.int .i64 x.imm) := k.box.cells
theorem text_is (x : Y.In) : Pq.strOf (textN (setN (setN (setN (setN zeros 0 1 x.op) 1 1 (x.dst * 16 + x.src)) 2 2 x.off) 4 4 x.imm) 0 8) = strOf (Y.bytes1 x) := rfl
set_option maxRecDepth 100000 in
set_option maxHeartbeats 4000000 in
theorem write_any (x : Y.In) (h : Y.Bd x) (w : World) : Calls Try.prog 22 #[inV x] w fun e w' => e = .returned (.string (strOf (Y.bytes1 x))) ∧ Below w.heap.size w w' := by
  have HT := Lib.hid (text_is x)
  have hw1 : IntKind.i64.wrap (x.dst * 16) = x.dst * 16 := by rw [IntKind.wrap_i64]; have := h.dst; omega
  have hw2 : IntKind.i64.wrap (x.dst * 16 + x.src) = x.dst * 16 + x.src := by rw [IntKind.wrap_i64]; have := h.dst; have := h.src; omega
  have S0 := Lib.hid (boxS_new w x 42)
  have H1 := Lib.hid (fun w => set_any zeros 0 1 x.op w zeros_length (by omega) (by omega))
  have L1 := Lib.hid (setN_length zeros 0 1 x.op zeros_length)
  generalize setN zeros 0 1 x.op = p1 at H1 L1 HT
  have H2 := Lib.hid (fun w => set_any p1 1 1 (x.dst * 16 + x.src) w L1.out (by omega) (by omega))
  have L2 := Lib.hid (setN_length p1 1 1 (x.dst * 16 + x.src) L1.out)
  generalize setN p1 1 1 (x.dst * 16 + x.src) = p2 at H2 L2 HT
  have H3 := Lib.hid (fun w => set_any p2 2 2 x.off w L2.out (by omega) (by omega))
  have L3 := Lib.hid (setN_length p2 2 2 x.off L2.out)
  generalize setN p2 2 2 x.off = p3 at H3 L3 HT
  have H4 := Lib.hid (fun w => set_any p3 4 4 x.imm w L3.out (by omega) (by omega))
  have L4 := Lib.hid (setN_length p3 4 4 x.imm L3.out)
  generalize setN p3 4 4 x.imm = p4 at H4 L4 HT
  have H5 := Lib.hid (fun w => text_any p4 0 8 w L4.out (by omega) (by omega))
  rw [HT.out] at H5
  generalize strOf (Y.bytes1 x) = s at H5 ⊢
  clear h HT
  unfold inV inL
  go_enter Try.func22, Try.ntmps22
  go_upto_region 1 with fail
  have S := S0
  clear S0
  generalize w.alloc (.cells #[.int .i64 x.op, .int .i64 x.dst, .int .i64 x.src, .int .i64 x.off, .int .i64 x.imm] 42) = W1 at S ⊢
  obtain ⟨c0, c1, c2, c3, c4⟩ := S.out.cells
  clear c1 c2 c3 c4
  go_wp2_with fail
  rw [← zeroCells_def]
  refine (H1.out _).mono ?_
  rintro e w2 ⟨rfl, hb⟩
  replace S := Lib.hid (S.out.call hb)
  clear hb c0 H1
  go_upto_region 2 with ((with_reducible refine wpList_store_new rfl (.tmp 3) (.tmp 7) rfl rfl ?_ ?_ L1.out ?_); (exact rfl); (exact rfl); intro W3 hP hB hz; have T := Lib.hid (WrS.start S.out hP hB); clear S hP hB hz; generalize w2.heap.size = C at T ⊢)
  obtain ⟨c0, c1, c2, c3, c4⟩ := T.out.cells
  go_upto_region 3 with (first
    | (with_reducible refine wpList_load_page T.out.page rfl (.tmp 3) rfl rfl ?_)
    | (go_at_call 33; (with_reducible refine (H2.out _).mono ?_); rintro e w' ⟨rfl, hb⟩; replace T := Lib.hid (T.out.call hb); clear hb)
    | ((with_reducible refine wpList_store_page T.out.page L2.out rfl (.tmp 3) (.tmp 15) rfl rfl rfl ?_); replace T := Lib.hid (T.out.store L2.out); generalize World.setCells _ C 0 (byteVals p2) = W5 at T ⊢))
  clear c0 c1 c2 c3 c4
  obtain ⟨c0, c1, c2, c3, c4⟩ := T.out.cells
  go_upto_region 4 with (first
    | (with_reducible refine wpList_load_page T.out.page rfl (.tmp 3) rfl rfl ?_)
    | (go_at_call 33; (with_reducible refine (H3.out _).mono ?_); rintro e w' ⟨rfl, hb⟩; replace T := Lib.hid (T.out.call hb); clear hb)
    | ((with_reducible refine wpList_store_page T.out.page L3.out rfl (.tmp 3) (.tmp 19) rfl rfl rfl ?_); replace T := Lib.hid (T.out.store L3.out); generalize World.setCells _ C 0 (byteVals p3) = W5 at T ⊢))
  clear c0 c1 c2 c3 c4
  obtain ⟨c0, c1, c2, c3, c4⟩ := T.out.cells
  go_upto_region 5 with (first
    | (with_reducible refine wpList_load_page T.out.page rfl (.tmp 3) rfl rfl ?_)
    | (go_at_call 33; (with_reducible refine (H4.out _).mono ?_); rintro e w' ⟨rfl, hb⟩; replace T := Lib.hid (T.out.call hb); clear hb)
    | ((with_reducible refine wpList_store_page T.out.page L4.out rfl (.tmp 3) (.tmp 23) rfl rfl rfl ?_); replace T := Lib.hid (T.out.store L4.out); generalize World.setCells _ C 0 (byteVals p4) = W5 at T ⊢))
  clear c0 c1 c2 c3 c4
  obtain ⟨c0, c1, c2, c3, c4⟩ := T.out.cells
  go_wp2_with (first
    | (with_reducible refine wpList_load_page T.out.page rfl (.tmp 3) rfl rfl ?_)
    | (go_at_call 34; (with_reducible refine (H5.out _).mono ?_); rintro e w' ⟨rfl, hb⟩; replace T := Lib.hid (T.out.call hb); clear hb))
  go_ret
  exact ⟨rfl, T.out.box.bel⟩
end Go.Proofs.Yteobdjgodljjmaa
