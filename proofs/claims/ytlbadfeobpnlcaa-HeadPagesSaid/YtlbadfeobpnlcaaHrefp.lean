/-
  The contract of the document's own Page.
-/
import Derived.Test.YtlbadfeobpnlcaaHopen
namespace Go.Proofs.Ytlbadfeobpnlcaa
open Go.RowKit
open Hd (Head rightB pageH)

theorem Enc.set {w0 : World} {h : Head} {C : Nat} {p : List UInt8} {W : World} (k : Enc w0 h C p W) (i : Nat) (c : UInt8) (hi : i < 64) : Enc w0 h C (p.set i c) (W.setCell ⟨C, i, none⟩ (.int .u8 (c.toNat : Int))) := by
  have hf := k.far
  have far : ∀ j, (W.setCell ⟨C, i, none⟩ (.int .u8 (c.toNat : Int))).cell? ⟨w0.heap.size, j, none⟩ = W.cell? ⟨w0.heap.size, j, none⟩ := fun j =>
    World.cell?_setCell_other _ _ _ _ (fun e => by injection e with e; omega)
  exact ⟨(far 0).trans k.c0, (far 1).trans k.c1, (far 2).trans k.c2, (far 3).trans k.c3, k.res.set_other _ _ _ (by omega), k.cur.set i c hi, hf, k.below.setCell (by show w0.heap.size ≤ C; omega) _⟩
theorem ref_start (w : World) (s : Int) (l : Bool) (c m : Int) :
    Enc w ⟨s, l, c, m⟩ (w.heap.size + 1 + 1) zeros (((w.alloc (.cells #[.int .i64 s, .bool l, .int .i64 c, .int .u32 m] 26)).alloc (.cells zeroCells 28)).alloc (.cells zeroCells 28)) := by
  have h0 : HeadAt (((w.alloc (.cells #[.int .i64 s, .bool l, .int .i64 c, .int .u32 m] 26)).alloc (.cells zeroCells 28)).alloc (.cells zeroCells 28)) w.heap.size ⟨s, l, c, m⟩ := ((headAt_new w ⟨s, l, c, m⟩ 26).alloc _).alloc _
  have h1 := (pageAt_zeros (w.alloc (.cells #[.int .i64 s, .bool l, .int .i64 c, .int .u32 m] 26)) 28).alloc (.cells zeroCells 28)
  have h2 := pageAt_zeros ((w.alloc (.cells #[.int .i64 s, .bool l, .int .i64 c, .int .u32 m] 26)).alloc (.cells zeroCells 28)) 28
  exact ⟨h0.c0, h0.c1, h0.c2, h0.c3, by simpa using h1, by simpa using h2, by omega, (((Below.refl _ _).alloc (Nat.le_refl _) _).alloc (by simp) _).alloc (by simp; omega) _⟩

set_option maxHeartbeats 4000000 in
theorem refPage_any (h : Head) (w : World) (hm0 : 0 ≤ h.sum) (hm1 : h.sum < 4294967296) :
    Calls Try.prog 12 #[headV h] w fun e w' => e = .returned (pageV (pageH h)) ∧ Below w.heap.size w w' := by
  have HC := Lib.hid (ref_chain h)
  generalize pageH h = Z at HC ⊢
  obtain ⟨s, l, c, m⟩ := h
  simp only at hm0 hm1 HC
  have hs := ref_start w s l c m
  rw [zeroCells_def] at hs
  have HS := Lib.hid hs; clear hs
  unfold headV
  go_enter Try.func12, Try.ntmps12
  cases l
  · simp only [Bool.false_eq_true, if_false] at HC
    go_wp2_with (first
      | ((with_reducible refine wpList_store_page HS.out.cur zeros_length rfl (.tmp 3) (.tmp 4) rfl ?_ ?_ ?_); (exact rfl); (exact rfl); have E0 := Lib.hid (HS.out.store zeros_length); clear HS; generalize World.setCells _ (w.heap.size + 1 + 1) 0 (byteVals zeros) = W0 at E0 ⊢; have d1 := E0.out.c1; have d0 := E0.out.c0)
      | (with_reducible refine wpList_load_page E0.out.cur rfl (.tmp 3) rfl rfl ?_))
    clear d0 d1
    refine (refSet_any zeros 0 4 s _ zeros_length).mono ?_
    rintro e w2 ⟨rfl, hb2⟩
    have F2 := Lib.hid (E0.out.call hb2)
    have L2 := Lib.hid (Pg.setN_length zeros 0 4 s zeros_length)
    generalize Pg.setN zeros 0 4 s = p2 at L2 HC ⊢
    clear hb2 E0
    go_wp2_with (first
      | ((with_reducible refine wpList_store_page F2.out.cur L2.out rfl (.tmp 3) (.tmp 11) rfl rfl rfl ?_); have E2 := Lib.hid (F2.out.store L2.out); clear F2; generalize w2.setCells (w.heap.size + 1 + 1) 0 (byteVals p2) = W2 at E2 ⊢; have d2 := E2.out.c0)
      | ((with_reducible refine wpList_load_page E2.out.cur rfl (.tmp 3) rfl rfl ?_)))
    clear d2
    refine (refSet_any p2 60 4 s _ L2.out).mono ?_
    rintro e w3 ⟨rfl, hb3⟩
    have F3 := Lib.hid (E2.out.call hb3)
    have L3 := Lib.hid (Pg.setN_length p2 60 4 s L2.out)
    generalize Pg.setN p2 60 4 s = p3 at L3 HC ⊢
    clear hb3 E2
    go_wp2_with (first
      | ((with_reducible refine wpList_store_page F3.out.cur L3.out rfl (.tmp 3) (.tmp 15) rfl rfl rfl ?_); have E3 := Lib.hid (F3.out.store L3.out); clear F3; generalize w3.setCells (w.heap.size + 1 + 1) 0 (byteVals p3) = W3 at E3 ⊢; have d3 := E3.out.c2)
      | ((with_reducible refine wpList_load_page E3.out.cur rfl (.tmp 3) rfl rfl ?_)))
    clear d3
    refine (refSet_any p3 5 2 c _ L3.out).mono ?_
    rintro e w4 ⟨rfl, hb4⟩
    have F4 := Lib.hid (E3.out.call hb4)
    have L4 := Lib.hid (Pg.setN_length p3 5 2 c L3.out)
    generalize Pg.setN p3 5 2 c = p4 at L4 HC ⊢
    clear hb4 E3
    go_wp2_with (first
      | ((with_reducible refine wpList_store_page F4.out.cur L4.out rfl (.tmp 3) (.tmp 19) rfl rfl rfl ?_); have E4 := Lib.hid (F4.out.store L4.out); clear F4; generalize w4.setCells (w.heap.size + 1 + 1) 0 (byteVals p4) = W4 at E4 ⊢; have d4 := E4.out.c3)
      | ((with_reducible refine wpList_load_page E4.out.cur rfl (.tmp 3) rfl rfl ?_)))
    clear d4
    refine (refSet_any p4 7 4 m _ L4.out).mono ?_
    rintro e w5 ⟨rfl, hb5⟩
    have F5 := Lib.hid (E4.out.call hb5)
    have L5 := Lib.hid (Pg.setN_length p4 7 4 m L4.out)
    generalize Pg.setN p4 7 4 m = p5 at L5 HC ⊢
    clear hb5 E4
    go_wp2_with ((with_reducible refine wpList_store_page F5.out.res L5.out rfl (.tmp 2) (.tmp 24) rfl rfl rfl ?_))
    exact bodyPost_ret (results_page _ 2 rfl _ (F5.out.res.put _ L5.out) rfl) rfl ⟨by rw [HC.out], below_setCells _ (by omega) _ _ _ F5.out.below⟩
  · simp only [if_true] at HC
    go_wp2_with (first
      | ((with_reducible refine wpList_store_page HS.out.cur zeros_length rfl (.tmp 3) (.tmp 4) rfl ?_ ?_ ?_); (exact rfl); (exact rfl); have E0 := Lib.hid (HS.out.store zeros_length); clear HS; generalize World.setCells _ (w.heap.size + 1 + 1) 0 (byteVals zeros) = W0 at E0 ⊢; have d1 := E0.out.c1; have c4 : W0.cell? ⟨w.heap.size + 1 + 1, 4, none⟩ = some (.int .u8 0) := E0.out.cur.cell 4 (by omega); have f4 := E0.out.cur.frozen 4 (by omega))
      | ((have E1 : Hid (Enc w ⟨s, true, c, m⟩ (w.heap.size + 1 + 1) (zeros.set 4 1) (W0.setCell ⟨w.heap.size + 1 + 1, 4, none⟩ (.int .u8 1))) := Lib.hid (E0.out.set 4 1 (by omega))); (generalize W0.setCell ⟨w.heap.size + 1 + 1, 4, none⟩ (.int .u8 1) = W1 at E1 ⊢); (with_reducible refine wpList_load_page E1.out.cur rfl (.tmp 3) rfl rfl ?_); clear E0 c4 f4 d1; have d0 := E1.out.c0))
    clear d0
    refine (refSet_any (zeros.set 4 1) 0 4 s _ (by rw [List.length_set, zeros_length])).mono ?_
    rintro e w2 ⟨rfl, hb2⟩
    have F2 := Lib.hid (E1.out.call hb2)
    have L2 := Lib.hid (Pg.setN_length (zeros.set 4 1) 0 4 s (by rw [List.length_set, zeros_length]))
    generalize Pg.setN (zeros.set 4 1) 0 4 s = p2 at L2 HC ⊢
    clear hb2 E1
    go_wp2_with (first
      | ((with_reducible refine wpList_store_page F2.out.cur L2.out rfl (.tmp 3) (.tmp 11) rfl rfl rfl ?_); have E2 := Lib.hid (F2.out.store L2.out); clear F2; generalize w2.setCells (w.heap.size + 1 + 1) 0 (byteVals p2) = W2 at E2 ⊢; have d2 := E2.out.c0)
      | ((with_reducible refine wpList_load_page E2.out.cur rfl (.tmp 3) rfl rfl ?_)))
    clear d2
    refine (refSet_any p2 60 4 s _ L2.out).mono ?_
    rintro e w3 ⟨rfl, hb3⟩
    have F3 := Lib.hid (E2.out.call hb3)
    have L3 := Lib.hid (Pg.setN_length p2 60 4 s L2.out)
    generalize Pg.setN p2 60 4 s = p3 at L3 HC ⊢
    clear hb3 E2
    go_wp2_with (first
      | ((with_reducible refine wpList_store_page F3.out.cur L3.out rfl (.tmp 3) (.tmp 15) rfl rfl rfl ?_); have E3 := Lib.hid (F3.out.store L3.out); clear F3; generalize w3.setCells (w.heap.size + 1 + 1) 0 (byteVals p3) = W3 at E3 ⊢; have d3 := E3.out.c2)
      | ((with_reducible refine wpList_load_page E3.out.cur rfl (.tmp 3) rfl rfl ?_)))
    clear d3
    refine (refSet_any p3 5 2 c _ L3.out).mono ?_
    rintro e w4 ⟨rfl, hb4⟩
    have F4 := Lib.hid (E3.out.call hb4)
    have L4 := Lib.hid (Pg.setN_length p3 5 2 c L3.out)
    generalize Pg.setN p3 5 2 c = p4 at L4 HC ⊢
    clear hb4 E3
    go_wp2_with (first
      | ((with_reducible refine wpList_store_page F4.out.cur L4.out rfl (.tmp 3) (.tmp 19) rfl rfl rfl ?_); have E4 := Lib.hid (F4.out.store L4.out); clear F4; generalize w4.setCells (w.heap.size + 1 + 1) 0 (byteVals p4) = W4 at E4 ⊢; have d4 := E4.out.c3)
      | ((with_reducible refine wpList_load_page E4.out.cur rfl (.tmp 3) rfl rfl ?_)))
    clear d4
    refine (refSet_any p4 7 4 m _ L4.out).mono ?_
    rintro e w5 ⟨rfl, hb5⟩
    have F5 := Lib.hid (E4.out.call hb5)
    have L5 := Lib.hid (Pg.setN_length p4 7 4 m L4.out)
    generalize Pg.setN p4 7 4 m = p5 at L5 HC ⊢
    clear hb5 E4
    go_wp2_with ((with_reducible refine wpList_store_page F5.out.res L5.out rfl (.tmp 2) (.tmp 24) rfl rfl rfl ?_))
    exact bodyPost_ret (results_page _ 2 rfl _ (F5.out.res.put _ L5.out) rfl) rfl ⟨by rw [HC.out], below_setCells _ (by omega) _ _ _ F5.out.below⟩
end Go.Proofs.Ytlbadfeobpnlcaa
