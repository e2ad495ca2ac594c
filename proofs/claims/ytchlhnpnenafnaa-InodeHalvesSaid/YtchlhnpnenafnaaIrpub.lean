/-
  The contract of the document's own Put.
-/
import Derived.Test.YtchlhnpnenafnaaIrput
namespace Go.Proofs.Ytchlhnpnenafnaa
open Go.RowKit
open Ii (Ino)

set_option maxRecDepth 100000 in
set_option maxHeartbeats 4000000 in
theorem rput_1 (p : List UInt8) (x : Ino) (w : World) (hp : p.length = 64) :
    Calls Try.prog 9 #[pageV p, .int .i64 1, inoV x] w fun e w' => e = .returned (pageV (Ii.putN p 32 x)) ∧ Below w.heap.size w w' := by
  have hs := putS_box w p x 31 hp
  rw [zeroCells_def] at hs
  have HS := Lib.hid hs; clear hs
  have HP := Lib.hid hp
  clear hp
  unfold pageV inoV
  go_enter Try.func9, Try.ntmps9
  go_wp2_with fail
  generalize hw : ((w.alloc _).alloc _).alloc _ = w1
  have S : Hid (PutS w p zeros x w1) := Lib.hid (by rw [← hw]; exact HS.out)
  clear hw HS
  go_loopw [8] (fun i wr => ∃ k : Nat, k ≤ 32 ∧ i = .int .i64 (k : Int) ∧ PutS w (Pg.over p 32 (List.replicate k 0)) zeros x wr) (fun i _ => 32 - (intOf i).toNat)
  case atStart => exact ⟨0, by omega, rfl, by rw [List.replicate_zero, Pg.over_nil]; exact S.out⟩
  case round =>
    clear S
    obtain ⟨k, hk, rfl, hS⟩ := hrel
    by_cases hlt : k < 32
    · have S := Lib.hid hS
      clear hS
      obtain ⟨j, hj⟩ : ∃ j, j = 32 + k := ⟨_, rfl⟩
      have hc := S.out.page.cell j (by omega)
      have hf := S.out.page.frozen j (by omega)
      have HK := Lib.hid hlt
      have hk64 : j < 64 := by omega
      have HE : Hid ((Pg.over p 32 (List.replicate k 0)).set j 0 = Pg.over p 32 (List.replicate (k + 1) 0)) := Lib.hid (by
        have e := Pg.over_set_behind p 32 (List.replicate k 0) 0 (by rw [List.length_replicate, HP.out]; omega)
        rw [List.length_replicate, ← hj] at e
        rw [e, List.replicate_succ'])
      have HC : Hid (∀ W, PutS w (Pg.over p 32 (List.replicate k 0)) zeros x W → PutS w (Pg.over p 32 (List.replicate (k + 1) 0)) zeros x (W.setCell ⟨w.heap.size, j, none⟩ (.int .u8 0))) := Lib.hid (fun W k' => by
        rw [← HE.out]
        exact k'.setByte j 0 hk64)
      generalize ((Pg.over p 32 (List.replicate k 0)).getD j 0) = c at hc
      have hwr : IntKind.i64.wrap ((32 : Int) + (k : Int)) = (j : Int) := by rw [IntKind.wrap_i64]; omega
      have hj0 : (0 : Int) ≤ (j : Int) := by omega
      have hj1 : (j : Int) < 64 := by omega
      clear hj
      go_wp2
      go_roundw
      case rel => exact ⟨k + 1, by have := HK.out; omega, by go_num, HC.out _ S.out⟩
      case measure => simp [intOf]; have := HK.out; omega
    · obtain rfl : k = 32 := by omega
      have S : Hid (PutS w (Pg.over p 32 Ii.z32) zeros x wr) := Lib.hid hS
      clear hS hlt
      have hc := S.out.ino.cell 0 _ rfl
      go_wp2_with (first
      | (with_reducible refine wpList_load_page S.out.page rfl (.tmp 3) rfl rfl ?_)
      | (go_at_call 18; refine (refSet_len _ _ _ _ _ S.out.page.len).mono ?_; rintro e w' ⟨⟨rfl, hl⟩, hb⟩; have L := Lib.hid hl; clear hl; clear hc; replace S := Lib.hid (S.out.call hb); clear hb)
      | ((with_reducible refine wpList_store_put S.out L.out rfl (.tmp 3) (.tmp 24) rfl rfl ?_ ?_); (exact rfl); intro W2 S2; replace S := Lib.hid S2; clear S2 L; have hc := S.out.ino.cell 1 _ rfl)
      | ((with_reducible refine wpList_store_put S.out L.out rfl (.tmp 3) (.tmp 30) rfl rfl ?_ ?_); (exact rfl); intro W2 S2; replace S := Lib.hid S2; clear S2 L; have hc := S.out.ino.cell 2 _ rfl)
      | ((with_reducible refine wpList_store_put S.out L.out rfl (.tmp 3) (.tmp 36) rfl rfl ?_ ?_); (exact rfl); intro W2 S2; replace S := Lib.hid S2; clear S2 L; have hc := S.out.ino.cell 3 _ rfl)
      | ((with_reducible refine wpList_store_put S.out L.out rfl (.tmp 3) (.tmp 42) rfl rfl ?_ ?_); (exact rfl); intro W2 S2; replace S := Lib.hid S2; clear S2 L; have hc := S.out.ino.cell 4 _ rfl)
      | ((with_reducible refine wpList_store_put S.out L.out rfl (.tmp 3) (.tmp 48) rfl rfl ?_ ?_); (exact rfl); intro W2 S2; replace S := Lib.hid S2; clear S2 L))
      replace S : Hid (PutS w (Ii.dirP p 32 x 0) zeros x W2) := S
      go_loopw [9] (fun i wr => ∃ k : Nat, k ≤ 4 ∧ i = .int .i64 (k : Int) ∧ PutS w (Ii.dirP p 32 x k) zeros x wr) (fun i _ => 4 - (intOf i).toNat)
      case atStart => exact ⟨0, by omega, rfl, S.out⟩
      case round =>
        clear S
        obtain ⟨k, hk, rfl, hS⟩ := hrel
        have hk : k = 0 ∨ k = 1 ∨ k = 2 ∨ k = 3 ∨ k = 4 := by omega
        rcases hk with rfl | rfl | rfl | rfl | rfl
        · obtain ⟨q1, E1⟩ : ∃ q, Hid (q = Ii.dirP p 32 x 0) := ⟨_, Lib.hid rfl⟩
          obtain ⟨q2, E2⟩ : ∃ q, Hid (q = Ii.dirP p 32 x 1) := ⟨_, Lib.hid rfl⟩
          rw [← E1.out] at hS
          have S := Lib.hid hS
          clear hS
          have HC1 : Hid (∀ W, Calls Try.prog 18 #[pageV q1, .int .i64 44, .int .i64 2, .int .i64 x.a] W fun e w' => e = .returned (pageV q2) ∧ Below W.heap.size W w') := Lib.hid (fun W => by
            rw [E2.out, show Ii.dirP p 32 x 1 = Pg.setN (Ii.dirP p 32 x 0) 44 2 x.a from rfl, ← E1.out]
            exact refSet_any _ _ _ _ W S.out.page.len)
          have HLR : Hid (q2.length = 64) := Lib.hid (by rw [E2.out]; exact Ii.dirP_length p 32 x HP.out (by decide) 1)
          clear E1
          go_wp2_with fail
          refine wp_region_lin (RpS w (q1) (q2) x) (fun i => i == 0 || i == 11) (fun i => [pageV (q1), .int .i64 32, .int .i64 44, .int .i64 0, .int .i64 0, .int .i64 44, .int .i64 0, .pointer (some ⟨w.heap.size + 1, 5, none⟩), .pointer (some ⟨w.heap.size + 1, 5, none⟩), .int .i64 x.a, pageV (q2)].getD i undef) (0) (by kernel_rfl) (by kernel_rfl) (PutS.drew S.out) ?_
          refine lin_turn (i := 0) (d := some 53) (fun u s => u = pageV (q1) ∧ s = 1) rfl rfl (by kernel_rfl) (by kernel_rfl) rfl (by kernel_rfl) (⟨_, _, rfl, rfl⟩) (by kernel_rfl) (fun W hS => gives_value (PageAt.loadsOp (PutS.page hS) rfl rfl) ⟨1, ⟨rfl, rfl⟩, hS⟩) ?_
          rintro _ _ ⟨rfl, rfl⟩
          (try simp only [Act.put, List.setIfInBounds_toArray, List.set_cons_zero, List.set_cons_succ])
          refine lin_step (i := 1) (d := some 54) (v := .int .i64 32) rfl rfl (by kernel_rfl) (by kernel_rfl) rfl rfl (ord_value (by kernel_rfl) ?_) ?_
          · (intro _ _ _; go_simp) <;> kernel_rfl
          (try simp only [Act.put, List.setIfInBounds_toArray, List.set_cons_zero, List.set_cons_succ])
          refine lin_step (i := 2) (d := some 55) (v := .int .i64 44) rfl rfl (by kernel_rfl) (by kernel_rfl) rfl rfl (ord_value (by kernel_rfl) ?_) ?_
          · (intro _ _ _; go_simp) <;> kernel_rfl
          (try simp only [Act.put, List.setIfInBounds_toArray, List.set_cons_zero, List.set_cons_succ])
          refine lin_step (i := 3) (d := some 56) (v := .int .i64 0) rfl rfl (by kernel_rfl) (by kernel_rfl) rfl rfl (ord_value (by kernel_rfl) ?_) ?_
          · (intro _ _ _; go_simp) <;> kernel_rfl
          (try simp only [Act.put, List.setIfInBounds_toArray, List.set_cons_zero, List.set_cons_succ])
          refine lin_step (i := 4) (d := some 57) (v := .int .i64 0) rfl rfl (by kernel_rfl) (by kernel_rfl) rfl rfl (ord_value (by kernel_rfl) ?_) ?_
          · (intro _ _ _; go_simp) <;> kernel_rfl
          (try simp only [Act.put, List.setIfInBounds_toArray, List.set_cons_zero, List.set_cons_succ])
          refine lin_step (i := 5) (d := some 58) (v := .int .i64 44) rfl rfl (by kernel_rfl) (by kernel_rfl) rfl rfl (ord_value (by kernel_rfl) ?_) ?_
          · (intro _ _ _; go_simp) <;> kernel_rfl
          (try simp only [Act.put, List.setIfInBounds_toArray, List.set_cons_zero, List.set_cons_succ])
          refine lin_step (i := 6) (d := some 59) (v := .int .i64 0) rfl rfl (by kernel_rfl) (by kernel_rfl) rfl rfl (ord_value (by kernel_rfl) ?_) ?_
          · (intro _ _ _; go_simp) <;> kernel_rfl
          (try simp only [Act.put, List.setIfInBounds_toArray, List.set_cons_zero, List.set_cons_succ])
          refine lin_step (i := 7) (d := some 60) (v := .pointer (some ⟨w.heap.size + 1, 5, none⟩)) rfl rfl (by kernel_rfl) (by kernel_rfl) rfl rfl (ord_value (by kernel_rfl) ?_) ?_
          · (intro _ _ _; go_simp) <;> kernel_rfl
          (try simp only [Act.put, List.setIfInBounds_toArray, List.set_cons_zero, List.set_cons_succ])
          refine lin_step (i := 8) (d := some 61) (v := .pointer (some ⟨w.heap.size + 1, 5, none⟩)) rfl rfl (by kernel_rfl) (by kernel_rfl) rfl rfl (ord_value (by kernel_rfl) ?_) ?_
          · intro _ W hS; have hix := index_addr0 W (w.heap.size + 1); go_simp
          (try simp only [Act.put, List.setIfInBounds_toArray, List.set_cons_zero, List.set_cons_succ])
          refine lin_step (i := 9) (d := some 62) (v := .int .i64 x.a) rfl rfl (by kernel_rfl) (by kernel_rfl) rfl rfl (ord_value (by kernel_rfl) ?_) ?_
          · intro _ W hS; have hc := RpS.cell0 hS; go_simp
          (try simp only [Act.put, List.setIfInBounds_toArray, List.set_cons_zero, List.set_cons_succ])
          refine lin_step (i := 10) (d := some 63) (v := pageV (q2)) rfl rfl (by kernel_rfl) (by kernel_rfl) rfl rfl (ord_call (f := 18) (args := #[pageV (q1), .int .i64 44, .int .i64 2, .int .i64 x.a]) (by kernel_rfl) ?_ (fun _ W hS => (HC1.out W).mono fun _ _ h => ⟨h.1, RpS.call hS h.2⟩)) ?_
          · intro _; go_simp
          (try simp only [Act.put, List.setIfInBounds_toArray, List.set_cons_zero, List.set_cons_succ])
          refine lin_turn (i := 11) (d := none) (fun u s => u = undef ∧ s = 2) rfl rfl (by kernel_rfl) (by kernel_rfl) rfl (by kernel_rfl) (⟨_, _, rfl, rfl⟩) (by kernel_rfl) (fun W hS => gives_store_page (p := q2) (PutS.page hS) HLR.out (.tmp 3) (.tmp 63) rfl rfl rfl ⟨2, ⟨rfl, rfl⟩, PutS.store hS HLR.out⟩) ?_
          rintro _ _ ⟨rfl, rfl⟩
          (try simp only [Act.put, List.setIfInBounds_toArray, List.set_cons_zero, List.set_cons_succ])
          refine lin_done (by kernel_rfl) ?_
          intro W2 hS
          replace S : Hid (PutS w (q2) zeros x W2) := Lib.hid hS
          clear hS
          go_wp2_with fail
          go_roundw
          case rel => exact ⟨1, by omega, rfl, by rw [← E2.out]; exact S.out⟩
          case measure => simp [intOf]
        · obtain ⟨q1, E1⟩ : ∃ q, Hid (q = Ii.dirP p 32 x 1) := ⟨_, Lib.hid rfl⟩
          obtain ⟨q2, E2⟩ : ∃ q, Hid (q = Ii.dirP p 32 x 2) := ⟨_, Lib.hid rfl⟩
          rw [← E1.out] at hS
          have S := Lib.hid hS
          clear hS
          have HC1 : Hid (∀ W, Calls Try.prog 18 #[pageV q1, .int .i64 46, .int .i64 2, .int .i64 x.b] W fun e w' => e = .returned (pageV q2) ∧ Below W.heap.size W w') := Lib.hid (fun W => by
            rw [E2.out, show Ii.dirP p 32 x 2 = Pg.setN (Ii.dirP p 32 x 1) 46 2 x.b from rfl, ← E1.out]
            exact refSet_any _ _ _ _ W S.out.page.len)
          have HLR : Hid (q2.length = 64) := Lib.hid (by rw [E2.out]; exact Ii.dirP_length p 32 x HP.out (by decide) 2)
          clear E1
          go_wp2_with fail
          refine wp_region_lin (RpS w (q1) (q2) x) (fun i => i == 0 || i == 11) (fun i => [pageV (q1), .int .i64 32, .int .i64 44, .int .i64 1, .int .i64 2, .int .i64 46, .int .i64 1, .pointer (some ⟨w.heap.size + 1, 5, none⟩), .pointer (some ⟨w.heap.size + 1, 6, none⟩), .int .i64 x.b, pageV (q2)].getD i undef) (0) (by kernel_rfl) (by kernel_rfl) (PutS.drew S.out) ?_
          refine lin_turn (i := 0) (d := some 53) (fun u s => u = pageV (q1) ∧ s = 1) rfl rfl (by kernel_rfl) (by kernel_rfl) rfl (by kernel_rfl) (⟨_, _, rfl, rfl⟩) (by kernel_rfl) (fun W hS => gives_value (PageAt.loadsOp (PutS.page hS) rfl rfl) ⟨1, ⟨rfl, rfl⟩, hS⟩) ?_
          rintro _ _ ⟨rfl, rfl⟩
          (try simp only [Act.put, List.setIfInBounds_toArray, List.set_cons_zero, List.set_cons_succ])
          refine lin_step (i := 1) (d := some 54) (v := .int .i64 32) rfl rfl (by kernel_rfl) (by kernel_rfl) rfl rfl (ord_value (by kernel_rfl) ?_) ?_
          · (intro _ _ _; go_simp) <;> kernel_rfl
          (try simp only [Act.put, List.setIfInBounds_toArray, List.set_cons_zero, List.set_cons_succ])
          refine lin_step (i := 2) (d := some 55) (v := .int .i64 44) rfl rfl (by kernel_rfl) (by kernel_rfl) rfl rfl (ord_value (by kernel_rfl) ?_) ?_
          · (intro _ _ _; go_simp) <;> kernel_rfl
          (try simp only [Act.put, List.setIfInBounds_toArray, List.set_cons_zero, List.set_cons_succ])
          refine lin_step (i := 3) (d := some 56) (v := .int .i64 1) rfl rfl (by kernel_rfl) (by kernel_rfl) rfl rfl (ord_value (by kernel_rfl) ?_) ?_
          · (intro _ _ _; go_simp) <;> kernel_rfl
          (try simp only [Act.put, List.setIfInBounds_toArray, List.set_cons_zero, List.set_cons_succ])
          refine lin_step (i := 4) (d := some 57) (v := .int .i64 2) rfl rfl (by kernel_rfl) (by kernel_rfl) rfl rfl (ord_value (by kernel_rfl) ?_) ?_
          · (intro _ _ _; go_simp) <;> kernel_rfl
          (try simp only [Act.put, List.setIfInBounds_toArray, List.set_cons_zero, List.set_cons_succ])
          refine lin_step (i := 5) (d := some 58) (v := .int .i64 46) rfl rfl (by kernel_rfl) (by kernel_rfl) rfl rfl (ord_value (by kernel_rfl) ?_) ?_
          · (intro _ _ _; go_simp) <;> kernel_rfl
          (try simp only [Act.put, List.setIfInBounds_toArray, List.set_cons_zero, List.set_cons_succ])
          refine lin_step (i := 6) (d := some 59) (v := .int .i64 1) rfl rfl (by kernel_rfl) (by kernel_rfl) rfl rfl (ord_value (by kernel_rfl) ?_) ?_
          · (intro _ _ _; go_simp) <;> kernel_rfl
          (try simp only [Act.put, List.setIfInBounds_toArray, List.set_cons_zero, List.set_cons_succ])
          refine lin_step (i := 7) (d := some 60) (v := .pointer (some ⟨w.heap.size + 1, 5, none⟩)) rfl rfl (by kernel_rfl) (by kernel_rfl) rfl rfl (ord_value (by kernel_rfl) ?_) ?_
          · (intro _ _ _; go_simp) <;> kernel_rfl
          (try simp only [Act.put, List.setIfInBounds_toArray, List.set_cons_zero, List.set_cons_succ])
          refine lin_step (i := 8) (d := some 61) (v := .pointer (some ⟨w.heap.size + 1, 6, none⟩)) rfl rfl (by kernel_rfl) (by kernel_rfl) rfl rfl (ord_value (by kernel_rfl) ?_) ?_
          · intro _ W hS; have hix := index_addr1 W (w.heap.size + 1); go_simp
          (try simp only [Act.put, List.setIfInBounds_toArray, List.set_cons_zero, List.set_cons_succ])
          refine lin_step (i := 9) (d := some 62) (v := .int .i64 x.b) rfl rfl (by kernel_rfl) (by kernel_rfl) rfl rfl (ord_value (by kernel_rfl) ?_) ?_
          · intro _ W hS; have hc := RpS.cell1 hS; go_simp
          (try simp only [Act.put, List.setIfInBounds_toArray, List.set_cons_zero, List.set_cons_succ])
          refine lin_step (i := 10) (d := some 63) (v := pageV (q2)) rfl rfl (by kernel_rfl) (by kernel_rfl) rfl rfl (ord_call (f := 18) (args := #[pageV (q1), .int .i64 46, .int .i64 2, .int .i64 x.b]) (by kernel_rfl) ?_ (fun _ W hS => (HC1.out W).mono fun _ _ h => ⟨h.1, RpS.call hS h.2⟩)) ?_
          · intro _; go_simp
          (try simp only [Act.put, List.setIfInBounds_toArray, List.set_cons_zero, List.set_cons_succ])
          refine lin_turn (i := 11) (d := none) (fun u s => u = undef ∧ s = 2) rfl rfl (by kernel_rfl) (by kernel_rfl) rfl (by kernel_rfl) (⟨_, _, rfl, rfl⟩) (by kernel_rfl) (fun W hS => gives_store_page (p := q2) (PutS.page hS) HLR.out (.tmp 3) (.tmp 63) rfl rfl rfl ⟨2, ⟨rfl, rfl⟩, PutS.store hS HLR.out⟩) ?_
          rintro _ _ ⟨rfl, rfl⟩
          (try simp only [Act.put, List.setIfInBounds_toArray, List.set_cons_zero, List.set_cons_succ])
          refine lin_done (by kernel_rfl) ?_
          intro W2 hS
          replace S : Hid (PutS w (q2) zeros x W2) := Lib.hid hS
          clear hS
          go_wp2_with fail
          go_roundw
          case rel => exact ⟨2, by omega, rfl, by rw [← E2.out]; exact S.out⟩
          case measure => simp [intOf]
        · obtain ⟨q1, E1⟩ : ∃ q, Hid (q = Ii.dirP p 32 x 2) := ⟨_, Lib.hid rfl⟩
          obtain ⟨q2, E2⟩ : ∃ q, Hid (q = Ii.dirP p 32 x 3) := ⟨_, Lib.hid rfl⟩
          rw [← E1.out] at hS
          have S := Lib.hid hS
          clear hS
          have HC1 : Hid (∀ W, Calls Try.prog 18 #[pageV q1, .int .i64 48, .int .i64 2, .int .i64 x.c] W fun e w' => e = .returned (pageV q2) ∧ Below W.heap.size W w') := Lib.hid (fun W => by
            rw [E2.out, show Ii.dirP p 32 x 3 = Pg.setN (Ii.dirP p 32 x 2) 48 2 x.c from rfl, ← E1.out]
            exact refSet_any _ _ _ _ W S.out.page.len)
          have HLR : Hid (q2.length = 64) := Lib.hid (by rw [E2.out]; exact Ii.dirP_length p 32 x HP.out (by decide) 3)
          clear E1
          go_wp2_with fail
          refine wp_region_lin (RpS w (q1) (q2) x) (fun i => i == 0 || i == 11) (fun i => [pageV (q1), .int .i64 32, .int .i64 44, .int .i64 2, .int .i64 4, .int .i64 48, .int .i64 2, .pointer (some ⟨w.heap.size + 1, 5, none⟩), .pointer (some ⟨w.heap.size + 1, 7, none⟩), .int .i64 x.c, pageV (q2)].getD i undef) (0) (by kernel_rfl) (by kernel_rfl) (PutS.drew S.out) ?_
          refine lin_turn (i := 0) (d := some 53) (fun u s => u = pageV (q1) ∧ s = 1) rfl rfl (by kernel_rfl) (by kernel_rfl) rfl (by kernel_rfl) (⟨_, _, rfl, rfl⟩) (by kernel_rfl) (fun W hS => gives_value (PageAt.loadsOp (PutS.page hS) rfl rfl) ⟨1, ⟨rfl, rfl⟩, hS⟩) ?_
          rintro _ _ ⟨rfl, rfl⟩
          (try simp only [Act.put, List.setIfInBounds_toArray, List.set_cons_zero, List.set_cons_succ])
          refine lin_step (i := 1) (d := some 54) (v := .int .i64 32) rfl rfl (by kernel_rfl) (by kernel_rfl) rfl rfl (ord_value (by kernel_rfl) ?_) ?_
          · (intro _ _ _; go_simp) <;> kernel_rfl
          (try simp only [Act.put, List.setIfInBounds_toArray, List.set_cons_zero, List.set_cons_succ])
          refine lin_step (i := 2) (d := some 55) (v := .int .i64 44) rfl rfl (by kernel_rfl) (by kernel_rfl) rfl rfl (ord_value (by kernel_rfl) ?_) ?_
          · (intro _ _ _; go_simp) <;> kernel_rfl
          (try simp only [Act.put, List.setIfInBounds_toArray, List.set_cons_zero, List.set_cons_succ])
          refine lin_step (i := 3) (d := some 56) (v := .int .i64 2) rfl rfl (by kernel_rfl) (by kernel_rfl) rfl rfl (ord_value (by kernel_rfl) ?_) ?_
          · (intro _ _ _; go_simp) <;> kernel_rfl
          (try simp only [Act.put, List.setIfInBounds_toArray, List.set_cons_zero, List.set_cons_succ])
          refine lin_step (i := 4) (d := some 57) (v := .int .i64 4) rfl rfl (by kernel_rfl) (by kernel_rfl) rfl rfl (ord_value (by kernel_rfl) ?_) ?_
          · (intro _ _ _; go_simp) <;> kernel_rfl
          (try simp only [Act.put, List.setIfInBounds_toArray, List.set_cons_zero, List.set_cons_succ])
          refine lin_step (i := 5) (d := some 58) (v := .int .i64 48) rfl rfl (by kernel_rfl) (by kernel_rfl) rfl rfl (ord_value (by kernel_rfl) ?_) ?_
          · (intro _ _ _; go_simp) <;> kernel_rfl
          (try simp only [Act.put, List.setIfInBounds_toArray, List.set_cons_zero, List.set_cons_succ])
          refine lin_step (i := 6) (d := some 59) (v := .int .i64 2) rfl rfl (by kernel_rfl) (by kernel_rfl) rfl rfl (ord_value (by kernel_rfl) ?_) ?_
          · (intro _ _ _; go_simp) <;> kernel_rfl
          (try simp only [Act.put, List.setIfInBounds_toArray, List.set_cons_zero, List.set_cons_succ])
          refine lin_step (i := 7) (d := some 60) (v := .pointer (some ⟨w.heap.size + 1, 5, none⟩)) rfl rfl (by kernel_rfl) (by kernel_rfl) rfl rfl (ord_value (by kernel_rfl) ?_) ?_
          · (intro _ _ _; go_simp) <;> kernel_rfl
          (try simp only [Act.put, List.setIfInBounds_toArray, List.set_cons_zero, List.set_cons_succ])
          refine lin_step (i := 8) (d := some 61) (v := .pointer (some ⟨w.heap.size + 1, 7, none⟩)) rfl rfl (by kernel_rfl) (by kernel_rfl) rfl rfl (ord_value (by kernel_rfl) ?_) ?_
          · intro _ W hS; have hix := index_addr2 W (w.heap.size + 1); go_simp
          (try simp only [Act.put, List.setIfInBounds_toArray, List.set_cons_zero, List.set_cons_succ])
          refine lin_step (i := 9) (d := some 62) (v := .int .i64 x.c) rfl rfl (by kernel_rfl) (by kernel_rfl) rfl rfl (ord_value (by kernel_rfl) ?_) ?_
          · intro _ W hS; have hc := RpS.cell2 hS; go_simp
          (try simp only [Act.put, List.setIfInBounds_toArray, List.set_cons_zero, List.set_cons_succ])
          refine lin_step (i := 10) (d := some 63) (v := pageV (q2)) rfl rfl (by kernel_rfl) (by kernel_rfl) rfl rfl (ord_call (f := 18) (args := #[pageV (q1), .int .i64 48, .int .i64 2, .int .i64 x.c]) (by kernel_rfl) ?_ (fun _ W hS => (HC1.out W).mono fun _ _ h => ⟨h.1, RpS.call hS h.2⟩)) ?_
          · intro _; go_simp
          (try simp only [Act.put, List.setIfInBounds_toArray, List.set_cons_zero, List.set_cons_succ])
          refine lin_turn (i := 11) (d := none) (fun u s => u = undef ∧ s = 2) rfl rfl (by kernel_rfl) (by kernel_rfl) rfl (by kernel_rfl) (⟨_, _, rfl, rfl⟩) (by kernel_rfl) (fun W hS => gives_store_page (p := q2) (PutS.page hS) HLR.out (.tmp 3) (.tmp 63) rfl rfl rfl ⟨2, ⟨rfl, rfl⟩, PutS.store hS HLR.out⟩) ?_
          rintro _ _ ⟨rfl, rfl⟩
          (try simp only [Act.put, List.setIfInBounds_toArray, List.set_cons_zero, List.set_cons_succ])
          refine lin_done (by kernel_rfl) ?_
          intro W2 hS
          replace S : Hid (PutS w (q2) zeros x W2) := Lib.hid hS
          clear hS
          go_wp2_with fail
          go_roundw
          case rel => exact ⟨3, by omega, rfl, by rw [← E2.out]; exact S.out⟩
          case measure => simp [intOf]
        · obtain ⟨q1, E1⟩ : ∃ q, Hid (q = Ii.dirP p 32 x 3) := ⟨_, Lib.hid rfl⟩
          obtain ⟨q2, E2⟩ : ∃ q, Hid (q = Ii.dirP p 32 x 4) := ⟨_, Lib.hid rfl⟩
          rw [← E1.out] at hS
          have S := Lib.hid hS
          clear hS
          have HC1 : Hid (∀ W, Calls Try.prog 18 #[pageV q1, .int .i64 50, .int .i64 2, .int .i64 x.d] W fun e w' => e = .returned (pageV q2) ∧ Below W.heap.size W w') := Lib.hid (fun W => by
            rw [E2.out, show Ii.dirP p 32 x 4 = Pg.setN (Ii.dirP p 32 x 3) 50 2 x.d from rfl, ← E1.out]
            exact refSet_any _ _ _ _ W S.out.page.len)
          have HLR : Hid (q2.length = 64) := Lib.hid (by rw [E2.out]; exact Ii.dirP_length p 32 x HP.out (by decide) 4)
          clear E1
          go_wp2_with fail
          refine wp_region_lin (RpS w (q1) (q2) x) (fun i => i == 0 || i == 11) (fun i => [pageV (q1), .int .i64 32, .int .i64 44, .int .i64 3, .int .i64 6, .int .i64 50, .int .i64 3, .pointer (some ⟨w.heap.size + 1, 5, none⟩), .pointer (some ⟨w.heap.size + 1, 8, none⟩), .int .i64 x.d, pageV (q2)].getD i undef) (0) (by kernel_rfl) (by kernel_rfl) (PutS.drew S.out) ?_
          refine lin_turn (i := 0) (d := some 53) (fun u s => u = pageV (q1) ∧ s = 1) rfl rfl (by kernel_rfl) (by kernel_rfl) rfl (by kernel_rfl) (⟨_, _, rfl, rfl⟩) (by kernel_rfl) (fun W hS => gives_value (PageAt.loadsOp (PutS.page hS) rfl rfl) ⟨1, ⟨rfl, rfl⟩, hS⟩) ?_
          rintro _ _ ⟨rfl, rfl⟩
          (try simp only [Act.put, List.setIfInBounds_toArray, List.set_cons_zero, List.set_cons_succ])
          refine lin_step (i := 1) (d := some 54) (v := .int .i64 32) rfl rfl (by kernel_rfl) (by kernel_rfl) rfl rfl (ord_value (by kernel_rfl) ?_) ?_
          · (intro _ _ _; go_simp) <;> kernel_rfl
          (try simp only [Act.put, List.setIfInBounds_toArray, List.set_cons_zero, List.set_cons_succ])
          refine lin_step (i := 2) (d := some 55) (v := .int .i64 44) rfl rfl (by kernel_rfl) (by kernel_rfl) rfl rfl (ord_value (by kernel_rfl) ?_) ?_
          · (intro _ _ _; go_simp) <;> kernel_rfl
          (try simp only [Act.put, List.setIfInBounds_toArray, List.set_cons_zero, List.set_cons_succ])
          refine lin_step (i := 3) (d := some 56) (v := .int .i64 3) rfl rfl (by kernel_rfl) (by kernel_rfl) rfl rfl (ord_value (by kernel_rfl) ?_) ?_
          · (intro _ _ _; go_simp) <;> kernel_rfl
          (try simp only [Act.put, List.setIfInBounds_toArray, List.set_cons_zero, List.set_cons_succ])
          refine lin_step (i := 4) (d := some 57) (v := .int .i64 6) rfl rfl (by kernel_rfl) (by kernel_rfl) rfl rfl (ord_value (by kernel_rfl) ?_) ?_
          · (intro _ _ _; go_simp) <;> kernel_rfl
          (try simp only [Act.put, List.setIfInBounds_toArray, List.set_cons_zero, List.set_cons_succ])
          refine lin_step (i := 5) (d := some 58) (v := .int .i64 50) rfl rfl (by kernel_rfl) (by kernel_rfl) rfl rfl (ord_value (by kernel_rfl) ?_) ?_
          · (intro _ _ _; go_simp) <;> kernel_rfl
          (try simp only [Act.put, List.setIfInBounds_toArray, List.set_cons_zero, List.set_cons_succ])
          refine lin_step (i := 6) (d := some 59) (v := .int .i64 3) rfl rfl (by kernel_rfl) (by kernel_rfl) rfl rfl (ord_value (by kernel_rfl) ?_) ?_
          · (intro _ _ _; go_simp) <;> kernel_rfl
          (try simp only [Act.put, List.setIfInBounds_toArray, List.set_cons_zero, List.set_cons_succ])
          refine lin_step (i := 7) (d := some 60) (v := .pointer (some ⟨w.heap.size + 1, 5, none⟩)) rfl rfl (by kernel_rfl) (by kernel_rfl) rfl rfl (ord_value (by kernel_rfl) ?_) ?_
          · (intro _ _ _; go_simp) <;> kernel_rfl
          (try simp only [Act.put, List.setIfInBounds_toArray, List.set_cons_zero, List.set_cons_succ])
          refine lin_step (i := 8) (d := some 61) (v := .pointer (some ⟨w.heap.size + 1, 8, none⟩)) rfl rfl (by kernel_rfl) (by kernel_rfl) rfl rfl (ord_value (by kernel_rfl) ?_) ?_
          · intro _ W hS; have hix := index_addr3 W (w.heap.size + 1); go_simp
          (try simp only [Act.put, List.setIfInBounds_toArray, List.set_cons_zero, List.set_cons_succ])
          refine lin_step (i := 9) (d := some 62) (v := .int .i64 x.d) rfl rfl (by kernel_rfl) (by kernel_rfl) rfl rfl (ord_value (by kernel_rfl) ?_) ?_
          · intro _ W hS; have hc := RpS.cell3 hS; go_simp
          (try simp only [Act.put, List.setIfInBounds_toArray, List.set_cons_zero, List.set_cons_succ])
          refine lin_step (i := 10) (d := some 63) (v := pageV (q2)) rfl rfl (by kernel_rfl) (by kernel_rfl) rfl rfl (ord_call (f := 18) (args := #[pageV (q1), .int .i64 50, .int .i64 2, .int .i64 x.d]) (by kernel_rfl) ?_ (fun _ W hS => (HC1.out W).mono fun _ _ h => ⟨h.1, RpS.call hS h.2⟩)) ?_
          · intro _; go_simp
          (try simp only [Act.put, List.setIfInBounds_toArray, List.set_cons_zero, List.set_cons_succ])
          refine lin_turn (i := 11) (d := none) (fun u s => u = undef ∧ s = 2) rfl rfl (by kernel_rfl) (by kernel_rfl) rfl (by kernel_rfl) (⟨_, _, rfl, rfl⟩) (by kernel_rfl) (fun W hS => gives_store_page (p := q2) (PutS.page hS) HLR.out (.tmp 3) (.tmp 63) rfl rfl rfl ⟨2, ⟨rfl, rfl⟩, PutS.store hS HLR.out⟩) ?_
          rintro _ _ ⟨rfl, rfl⟩
          (try simp only [Act.put, List.setIfInBounds_toArray, List.set_cons_zero, List.set_cons_succ])
          refine lin_done (by kernel_rfl) ?_
          intro W2 hS
          replace S : Hid (PutS w (q2) zeros x W2) := Lib.hid hS
          clear hS
          go_wp2_with fail
          go_roundw
          case rel => exact ⟨4, by omega, rfl, by rw [← E2.out]; exact S.out⟩
          case measure => simp [intOf]
        · have S := Lib.hid hS
          clear hS
          have hc := S.out.ino.cell 9 _ rfl
          have HL := Lib.hid (Ii.putN_length p 32 x HP.out (by decide))
          go_wp2_with (first
          | (with_reducible refine wpList_load_page S.out.page rfl (.tmp 3) rfl rfl ?_)
          | (go_at_call 18; refine (refSet_len _ _ _ _ _ S.out.page.len).mono ?_; rintro e w' ⟨⟨rfl, hl⟩, hb⟩; have L := Lib.hid hl; clear hl; clear hc; replace S := Lib.hid (S.out.call hb); clear hb)
          | ((with_reducible refine wpList_store_put S.out L.out rfl (.tmp 3) (.tmp 69) rfl rfl ?_ ?_); (exact rfl); intro W2 S2; replace S := Lib.hid S2; clear S2 L; have hc := S.out.ino.cell 10 _ rfl)
          | ((with_reducible refine wpList_store_page S.out.out HL.out rfl (.tmp 6) (.tmp 75) rfl rfl ?_ ?_); (exact rfl)))
          exact bodyPost_ret (results_page _ 6 rfl _ (S.out.back HL.out).1 rfl) rfl ⟨rfl, (S.out.back HL.out).2⟩
end Go.Proofs.Ytchlhnpnenafnaa
