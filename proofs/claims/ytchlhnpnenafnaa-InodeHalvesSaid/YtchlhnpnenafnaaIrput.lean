/-
  The contract of the document's own Put.
-/
import Derived.Test.YtchlhnpnenafnaaIput
namespace Go.Proofs.Ytchlhnpnenafnaa
open Go.RowKit
open Ii (Ino)

theorem PutS.drew {w0 : World} {q z : List UInt8} {x : Ino} {W : World} (k : PutS w0 q z x W) : PutS w0 q z x W.drew := ⟨k.page.drew, k.ino.drew, k.out.drew, k.below.drew⟩
theorem PutS.setByte {w0 : World} {q z : List UInt8} {x : Ino} {W : World} (k : PutS w0 q z x W) (i : Nat) (c : UInt8) (hi : i < 64) : PutS w0 (q.set i c) z x (W.setCell ⟨w0.heap.size, i, none⟩ (.int .u8 (c.toNat : Int))) :=
  ⟨k.page.set i c hi, ⟨fun j u hu => by rw [World.cell?_setCell_other _ _ _ _ (fun q => absurd (congrArg Addr.block q) (by simp))]; exact k.ino.range j u hu, fun j hj => by rw [World.cell?_setCell_other _ _ _ _ (fun q => absurd (congrArg Addr.block q) (by simp)), World.frozen?_setCell]; exact k.ino.free j hj⟩, k.out.set_other _ _ _ (by omega), k.below.setCell (Nat.le_refl _) _⟩
/-- ahead of the store: one page; behind it: the other -/
def RpS (w0 : World) (q1 q2 : List UInt8) (x : Ino) (s : Nat) (W : World) : Prop := PutS w0 (if s = 2 then q2 else q1) zeros x W
theorem RpS.call {w0 : World} {q1 q2 : List UInt8} {x : Ino} {s : Nat} {W W' : World} (k : RpS w0 q1 q2 x s W) (hb : Below W.heap.size W W') : RpS w0 q1 q2 x s W' := PutS.call k hb
theorem RpS.cell0 {w0 : World} {q1 q2 : List UInt8} {x : Ino} {s : Nat} {W : World} (k : RpS w0 q1 q2 x s W) : W.cell? ⟨w0.heap.size + 1, 5, none⟩ = some (.int .i64 x.a) := k.ino.cell 5 _ rfl
theorem RpS.cell1 {w0 : World} {q1 q2 : List UInt8} {x : Ino} {s : Nat} {W : World} (k : RpS w0 q1 q2 x s W) : W.cell? ⟨w0.heap.size + 1, 6, none⟩ = some (.int .i64 x.b) := k.ino.cell 6 _ rfl
theorem RpS.cell2 {w0 : World} {q1 q2 : List UInt8} {x : Ino} {s : Nat} {W : World} (k : RpS w0 q1 q2 x s W) : W.cell? ⟨w0.heap.size + 1, 7, none⟩ = some (.int .i64 x.c) := k.ino.cell 7 _ rfl
theorem RpS.cell3 {w0 : World} {q1 q2 : List UInt8} {x : Ino} {s : Nat} {W : World} (k : RpS w0 q1 q2 x s W) : W.cell? ⟨w0.heap.size + 1, 8, none⟩ = some (.int .i64 x.d) := k.ino.cell 8 _ rfl
theorem PageAt.loadsOp {w : World} {b : Nat} {p : List UInt8} {ρ : Operand → Value} {op : Oper} (h : PageAt w b p) {u : Operand} (ho : op.op = .load 23 u) (hx : ρ u = .pointer (some ⟨b, 0, none⟩)) : (execOp ρ op).run Try.prog w = .ok (.value (pageV p)) w := by
  have := h.loads
  unfold execOp
  simp only [ho, hx, Instr.loadAt, Instr.sureAddr, Sem.run_bind, Sem.run_pure, Result.andThen_ok, this]
theorem gives_store_page {op : Oper} {a : Act} {w : World} {b : Nat} {q p : List UInt8} {R : Value → World → Prop} (k : PageAt w b q) (hp : p.length = 64) (u v : Operand) (ho : op.op = .store 23 u v) (hx : a.eval u = .pointer (some ⟨b, 0, none⟩)) (hy : a.eval v = pageV p)
    (hR : R undef (w.setCells b 0 (byteVals p))) : Gives Try.prog (execOp a.eval op) w R := by
  have hs := run_storeVar_mid (P := Try.prog) w b 0 23 (byteVals p).toArray (by rw [List.size_toArray, byteVals_length, hp]; exact k.free) (by rw [page_info, List.size_toArray, byteVals_length, hp]) (all_oneCell_toArray (byteVals_one p))
  rw [List.toList_toArray] at hs
  unfold pageV at hy
  have hrun : (execOp a.eval op).run Try.prog w = .ok .skip (w.setCells b 0 (byteVals p)) ∨ (execOp a.eval op).run Try.prog w = .ok (.value undef) (w.setCells b 0 (byteVals p)) := by
    unfold execOp
    simp only [ho, hx, hy, Instr.storeAt, Instr.sureAddr, Sem.run_bind, Sem.run_pure, Result.andThen_ok, hs]
    simp
  unfold Gives
  rcases hrun with h | h <;> (rw [h]; exact hR)
theorem index_addr0 (w : World) (b : Nat) : (Instr.indexAt 24 (.pointer (some ⟨b, 5, none⟩)) (.int .i64 0)).run Try.prog w = .ok (.pointer (some ⟨b, 5, none⟩)) w := by go_simp
theorem index_addr1 (w : World) (b : Nat) : (Instr.indexAt 24 (.pointer (some ⟨b, 5, none⟩)) (.int .i64 1)).run Try.prog w = .ok (.pointer (some ⟨b, 6, none⟩)) w := by go_simp
theorem index_addr2 (w : World) (b : Nat) : (Instr.indexAt 24 (.pointer (some ⟨b, 5, none⟩)) (.int .i64 2)).run Try.prog w = .ok (.pointer (some ⟨b, 7, none⟩)) w := by go_simp
theorem index_addr3 (w : World) (b : Nat) : (Instr.indexAt 24 (.pointer (some ⟨b, 5, none⟩)) (.int .i64 3)).run Try.prog w = .ok (.pointer (some ⟨b, 8, none⟩)) w := by go_simp

set_option maxRecDepth 100000 in
set_option maxHeartbeats 4000000 in
theorem rput_0 (p : List UInt8) (x : Ino) (w : World) (hp : p.length = 64) :
    Calls Try.prog 9 #[pageV p, .int .i64 0, inoV x] w fun e w' => e = .returned (pageV (Ii.putN p 0 x)) ∧ Below w.heap.size w w' := by
  have hs := putS_box w p x 31 hp
  rw [zeroCells_def] at hs
  have HS := Lib.hid hs; clear hs
  have HP := Lib.hid hp
  clear hp
  unfold pageV inoV
  go_enter Try.func9, Try.ntmps9
  go_wp2_with fail
  generalize hw : ((w.alloc _).alloc _).alloc _ = w1
  have S : Hid (PutS w p zeros x w1) := Lib.hid (by rw [← hw]; exact HS.out)
  clear hw HS
  go_loopw [8] (fun i wr => ∃ k : Nat, k ≤ 32 ∧ i = .int .i64 (k : Int) ∧ PutS w (Pg.over p 0 (List.replicate k 0)) zeros x wr) (fun i _ => 32 - (intOf i).toNat)
  case atStart => exact ⟨0, by omega, rfl, by rw [List.replicate_zero, Pg.over_nil]; exact S.out⟩
  case round =>
    clear S
    obtain ⟨k, hk, rfl, hS⟩ := hrel
    by_cases hlt : k < 32
    · have S := Lib.hid hS
      clear hS
      have hc := S.out.page.cell k (by omega)
      have hf := S.out.page.frozen k (by omega)
      have HK := Lib.hid hlt
      have hk64 : k < 64 := by omega
      have HE : Hid ((Pg.over p 0 (List.replicate k 0)).set k 0 = Pg.over p 0 (List.replicate (k + 1) 0)) := Lib.hid (by
        have e := Pg.over_set_behind p 0 (List.replicate k 0) 0 (by rw [List.length_replicate, HP.out]; omega)
        rw [List.length_replicate, Nat.zero_add] at e
        rw [e, List.replicate_succ'])
      have HC : Hid (∀ W, PutS w (Pg.over p 0 (List.replicate k 0)) zeros x W → PutS w (Pg.over p 0 (List.replicate (k + 1) 0)) zeros x (W.setCell ⟨w.heap.size, k, none⟩ (.int .u8 0))) := Lib.hid (fun W k' => by
        rw [← HE.out]
        exact k'.setByte k 0 hk64)
      generalize ((Pg.over p 0 (List.replicate k 0)).getD k 0) = c at hc
      go_wp2
      go_roundw
      case rel => exact ⟨k + 1, by have := HK.out; omega, by go_num, HC.out _ S.out⟩
      case measure => simp [intOf]; have := HK.out; omega
    · obtain rfl : k = 32 := by omega
      have S : Hid (PutS w (Pg.over p 0 Ii.z32) zeros x wr) := Lib.hid hS
      clear hS hlt
      have hc := S.out.ino.cell 0 _ rfl
      go_wp2_with (first
      | (with_reducible refine wpList_load_page S.out.page rfl (.tmp 3) rfl rfl ?_)
      | (go_at_call 18; refine (refSet_len _ _ _ _ _ S.out.page.len).mono ?_; rintro e w' ⟨⟨rfl, hl⟩, hb⟩; have L := Lib.hid hl; clear hl; clear hc; replace S := Lib.hid (S.out.call hb); clear hb)
      | ((with_reducible refine wpList_store_put S.out L.out rfl (.tmp 3) (.tmp 24) rfl rfl ?_ ?_); (exact rfl); intro W2 S2; replace S := Lib.hid S2; clear S2 L; have hc := S.out.ino.cell 1 _ rfl)
      | ((with_reducible refine wpList_store_put S.out L.out rfl (.tmp 3) (.tmp 30) rfl rfl ?_ ?_); (exact rfl); intro W2 S2; replace S := Lib.hid S2; clear S2 L; have hc := S.out.ino.cell 2 _ rfl)
      | ((with_reducible refine wpList_store_put S.out L.out rfl (.tmp 3) (.tmp 36) rfl rfl ?_ ?_); (exact rfl); intro W2 S2; replace S := Lib.hid S2; clear S2 L; have hc := S.out.ino.cell 3 _ rfl)
      | ((with_reducible refine wpList_store_put S.out L.out rfl (.tmp 3) (.tmp 42) rfl rfl ?_ ?_); (exact rfl); intro W2 S2; replace S := Lib.hid S2; clear S2 L; have hc := S.out.ino.cell 4 _ rfl)
      | ((with_reducible refine wpList_store_put S.out L.out rfl (.tmp 3) (.tmp 48) rfl rfl ?_ ?_); (exact rfl); intro W2 S2; replace S := Lib.hid S2; clear S2 L))
      replace S : Hid (PutS w (Ii.dirP p 0 x 0) zeros x W2) := S
      go_loopw [9] (fun i wr => ∃ k : Nat, k ≤ 4 ∧ i = .int .i64 (k : Int) ∧ PutS w (Ii.dirP p 0 x k) zeros x wr) (fun i _ => 4 - (intOf i).toNat)
      case atStart => exact ⟨0, by omega, rfl, S.out⟩
      case round =>
        clear S
        obtain ⟨k, hk, rfl, hS⟩ := hrel
        have hk : k = 0 ∨ k = 1 ∨ k = 2 ∨ k = 3 ∨ k = 4 := by omega
        rcases hk with rfl | rfl | rfl | rfl | rfl
        · obtain ⟨q1, E1⟩ : ∃ q, Hid (q = Ii.dirP p 0 x 0) := ⟨_, Lib.hid rfl⟩
          obtain ⟨q2, E2⟩ : ∃ q, Hid (q = Ii.dirP p 0 x 1) := ⟨_, Lib.hid rfl⟩
          rw [← E1.out] at hS
          have S := Lib.hid hS
          clear hS
          have HC1 : Hid (∀ W, Calls Try.prog 18 #[pageV q1, .int .i64 12, .int .i64 2, .int .i64 x.a] W fun e w' => e = .returned (pageV q2) ∧ Below W.heap.size W w') := Lib.hid (fun W => by
            rw [E2.out, show Ii.dirP p 0 x 1 = Pg.setN (Ii.dirP p 0 x 0) 12 2 x.a from rfl, ← E1.out]
            exact refSet_any _ _ _ _ W S.out.page.len)
          have HLR : Hid (q2.length = 64) := Lib.hid (by rw [E2.out]; exact Ii.dirP_length p 0 x HP.out (by decide) 1)
          clear E1
          go_wp2_with fail
          refine wp_region_lin (RpS w (q1) (q2) x) (fun i => i == 0 || i == 11) (fun i => [pageV (q1), .int .i64 0, .int .i64 12, .int .i64 0, .int .i64 0, .int .i64 12, .int .i64 0, .pointer (some ⟨w.heap.size + 1, 5, none⟩), .pointer (some ⟨w.heap.size + 1, 5, none⟩), .int .i64 x.a, pageV (q2)].getD i undef) (0) (by kernel_rfl) (by kernel_rfl) (PutS.drew S.out) ?_
          refine lin_turn (i := 0) (d := some 53) (fun u s => u = pageV (q1) ∧ s = 1) rfl rfl (by kernel_rfl) (by kernel_rfl) rfl (by kernel_rfl) (⟨_, _, rfl, rfl⟩) (by kernel_rfl) (fun W hS => gives_value (PageAt.loadsOp (PutS.page hS) rfl rfl) ⟨1, ⟨rfl, rfl⟩, hS⟩) ?_
          rintro _ _ ⟨rfl, rfl⟩
          (try simp only [Act.put, List.setIfInBounds_toArray, List.set_cons_zero, List.set_cons_succ])
          refine lin_step (i := 1) (d := some 54) (v := .int .i64 0) rfl rfl (by kernel_rfl) (by kernel_rfl) rfl rfl (ord_value (by kernel_rfl) ?_) ?_
          · (intro _ _ _; go_simp) <;> kernel_rfl
          (try simp only [Act.put, List.setIfInBounds_toArray, List.set_cons_zero, List.set_cons_succ])
          refine lin_step (i := 2) (d := some 55) (v := .int .i64 12) rfl rfl (by kernel_rfl) (by kernel_rfl) rfl rfl (ord_value (by kernel_rfl) ?_) ?_
          · (intro _ _ _; go_simp) <;> kernel_rfl
          (try simp only [Act.put, List.setIfInBounds_toArray, List.set_cons_zero, List.set_cons_succ])
          refine lin_step (i := 3) (d := some 56) (v := .int .i64 0) rfl rfl (by kernel_rfl) (by kernel_rfl) rfl rfl (ord_value (by kernel_rfl) ?_) ?_
          · (intro _ _ _; go_simp) <;> kernel_rfl
          (try simp only [Act.put, List.setIfInBounds_toArray, List.set_cons_zero, List.set_cons_succ])
          refine lin_step (i := 4) (d := some 57) (v := .int .i64 0) rfl rfl (by kernel_rfl) (by kernel_rfl) rfl rfl (ord_value (by kernel_rfl) ?_) ?_
          · (intro _ _ _; go_simp) <;> kernel_rfl
          (try simp only [Act.put, List.setIfInBounds_toArray, List.set_cons_zero, List.set_cons_succ])
          refine lin_step (i := 5) (d := some 58) (v := .int .i64 12) rfl rfl (by kernel_rfl) (by kernel_rfl) rfl rfl (ord_value (by kernel_rfl) ?_) ?_
          · (intro _ _ _; go_simp) <;> kernel_rfl
          (try simp only [Act.put, List.setIfInBounds_toArray, List.set_cons_zero, List.set_cons_succ])
          refine lin_step (i := 6) (d := some 59) (v := .int .i64 0) rfl rfl (by kernel_rfl) (by kernel_rfl) rfl rfl (ord_value (by kernel_rfl) ?_) ?_
          · (intro _ _ _; go_simp) <;> kernel_rfl
          (try simp only [Act.put, List.setIfInBounds_toArray, List.set_cons_zero, List.set_cons_succ])
          refine lin_step (i := 7) (d := some 60) (v := .pointer (some ⟨w.heap.size + 1, 5, none⟩)) rfl rfl (by kernel_rfl) (by kernel_rfl) rfl rfl (ord_value (by kernel_rfl) ?_) ?_
          · (intro _ _ _; go_simp) <;> kernel_rfl
          (try simp only [Act.put, List.setIfInBounds_toArray, List.set_cons_zero, List.set_cons_succ])
          refine lin_step (i := 8) (d := some 61) (v := .pointer (some ⟨w.heap.size + 1, 5, none⟩)) rfl rfl (by kernel_rfl) (by kernel_rfl) rfl rfl (ord_value (by kernel_rfl) ?_) ?_
          · intro _ W hS; have hix := index_addr0 W (w.heap.size + 1); go_simp
          (try simp only [Act.put, List.setIfInBounds_toArray, List.set_cons_zero, List.set_cons_succ])
          refine lin_step (i := 9) (d := some 62) (v := .int .i64 x.a) rfl rfl (by kernel_rfl) (by kernel_rfl) rfl rfl (ord_value (by kernel_rfl) ?_) ?_
          · intro _ W hS; have hc := RpS.cell0 hS; go_simp
          (try simp only [Act.put, List.setIfInBounds_toArray, List.set_cons_zero, List.set_cons_succ])
          refine lin_step (i := 10) (d := some 63) (v := pageV (q2)) rfl rfl (by kernel_rfl) (by kernel_rfl) rfl rfl (ord_call (f := 18) (args := #[pageV (q1), .int .i64 12, .int .i64 2, .int .i64 x.a]) (by kernel_rfl) ?_ (fun _ W hS => (HC1.out W).mono fun _ _ h => ⟨h.1, RpS.call hS h.2⟩)) ?_
          · intro _; go_simp
          (try simp only [Act.put, List.setIfInBounds_toArray, List.set_cons_zero, List.set_cons_succ])
          refine lin_turn (i := 11) (d := none) (fun u s => u = undef ∧ s = 2) rfl rfl (by kernel_rfl) (by kernel_rfl) rfl (by kernel_rfl) (⟨_, _, rfl, rfl⟩) (by kernel_rfl) (fun W hS => gives_store_page (p := q2) (PutS.page hS) HLR.out (.tmp 3) (.tmp 63) rfl rfl rfl ⟨2, ⟨rfl, rfl⟩, PutS.store hS HLR.out⟩) ?_
          rintro _ _ ⟨rfl, rfl⟩
          (try simp only [Act.put, List.setIfInBounds_toArray, List.set_cons_zero, List.set_cons_succ])
          refine lin_done (by kernel_rfl) ?_
          intro W2 hS
          replace S : Hid (PutS w (q2) zeros x W2) := Lib.hid hS
          clear hS
          go_wp2_with fail
          go_roundw
          case rel => exact ⟨1, by omega, rfl, by rw [← E2.out]; exact S.out⟩
          case measure => simp [intOf]
        · obtain ⟨q1, E1⟩ : ∃ q, Hid (q = Ii.dirP p 0 x 1) := ⟨_, Lib.hid rfl⟩
          obtain ⟨q2, E2⟩ : ∃ q, Hid (q = Ii.dirP p 0 x 2) := ⟨_, Lib.hid rfl⟩
          rw [← E1.out] at hS
          have S := Lib.hid hS
          clear hS
          have HC1 : Hid (∀ W, Calls Try.prog 18 #[pageV q1, .int .i64 14, .int .i64 2, .int .i64 x.b] W fun e w' => e = .returned (pageV q2) ∧ Below W.heap.size W w') := Lib.hid (fun W => by
            rw [E2.out, show Ii.dirP p 0 x 2 = Pg.setN (Ii.dirP p 0 x 1) 14 2 x.b from rfl, ← E1.out]
            exact refSet_any _ _ _ _ W S.out.page.len)
          have HLR : Hid (q2.length = 64) := Lib.hid (by rw [E2.out]; exact Ii.dirP_length p 0 x HP.out (by decide) 2)
          clear E1
          go_wp2_with fail
          refine wp_region_lin (RpS w (q1) (q2) x) (fun i => i == 0 || i == 11) (fun i => [pageV (q1), .int .i64 0, .int .i64 12, .int .i64 1, .int .i64 2, .int .i64 14, .int .i64 1, .pointer (some ⟨w.heap.size + 1, 5, none⟩), .pointer (some ⟨w.heap.size + 1, 6, none⟩), .int .i64 x.b, pageV (q2)].getD i undef) (0) (by kernel_rfl) (by kernel_rfl) (PutS.drew S.out) ?_
          refine lin_turn (i := 0) (d := some 53) (fun u s => u = pageV (q1) ∧ s = 1) rfl rfl (by kernel_rfl) (by kernel_rfl) rfl (by kernel_rfl) (⟨_, _, rfl, rfl⟩) (by kernel_rfl) (fun W hS => gives_value (PageAt.loadsOp (PutS.page hS) rfl rfl) ⟨1, ⟨rfl, rfl⟩, hS⟩) ?_
          rintro _ _ ⟨rfl, rfl⟩
          (try simp only [Act.put, List.setIfInBounds_toArray, List.set_cons_zero, List.set_cons_succ])
          refine lin_step (i := 1) (d := some 54) (v := .int .i64 0) rfl rfl (by kernel_rfl) (by kernel_rfl) rfl rfl (ord_value (by kernel_rfl) ?_) ?_
          · (intro _ _ _; go_simp) <;> kernel_rfl
          (try simp only [Act.put, List.setIfInBounds_toArray, List.set_cons_zero, List.set_cons_succ])
          refine lin_step (i := 2) (d := some 55) (v := .int .i64 12) rfl rfl (by kernel_rfl) (by kernel_rfl) rfl rfl (ord_value (by kernel_rfl) ?_) ?_
          · (intro _ _ _; go_simp) <;> kernel_rfl
          (try simp only [Act.put, List.setIfInBounds_toArray, List.set_cons_zero, List.set_cons_succ])
          refine lin_step (i := 3) (d := some 56) (v := .int .i64 1) rfl rfl (by kernel_rfl) (by kernel_rfl) rfl rfl (ord_value (by kernel_rfl) ?_) ?_
          · (intro _ _ _; go_simp) <;> kernel_rfl
          (try simp only [Act.put, List.setIfInBounds_toArray, List.set_cons_zero, List.set_cons_succ])
          refine lin_step (i := 4) (d := some 57) (v := .int .i64 2) rfl rfl (by kernel_rfl) (by kernel_rfl) rfl rfl (ord_value (by kernel_rfl) ?_) ?_
          · (intro _ _ _; go_simp) <;> kernel_rfl
          (try simp only [Act.put, List.setIfInBounds_toArray, List.set_cons_zero, List.set_cons_succ])
          refine lin_step (i := 5) (d := some 58) (v := .int .i64 14) rfl rfl (by kernel_rfl) (by kernel_rfl) rfl rfl (ord_value (by kernel_rfl) ?_) ?_
          · (intro _ _ _; go_simp) <;> kernel_rfl
          (try simp only [Act.put, List.setIfInBounds_toArray, List.set_cons_zero, List.set_cons_succ])
          refine lin_step (i := 6) (d := some 59) (v := .int .i64 1) rfl rfl (by kernel_rfl) (by kernel_rfl) rfl rfl (ord_value (by kernel_rfl) ?_) ?_
          · (intro _ _ _; go_simp) <;> kernel_rfl
          (try simp only [Act.put, List.setIfInBounds_toArray, List.set_cons_zero, List.set_cons_succ])
          refine lin_step (i := 7) (d := some 60) (v := .pointer (some ⟨w.heap.size + 1, 5, none⟩)) rfl rfl (by kernel_rfl) (by kernel_rfl) rfl rfl (ord_value (by kernel_rfl) ?_) ?_
          · (intro _ _ _; go_simp) <;> kernel_rfl
          (try simp only [Act.put, List.setIfInBounds_toArray, List.set_cons_zero, List.set_cons_succ])
          refine lin_step (i := 8) (d := some 61) (v := .pointer (some ⟨w.heap.size + 1, 6, none⟩)) rfl rfl (by kernel_rfl) (by kernel_rfl) rfl rfl (ord_value (by kernel_rfl) ?_) ?_
          · intro _ W hS; have hix := index_addr1 W (w.heap.size + 1); go_simp
          (try simp only [Act.put, List.setIfInBounds_toArray, List.set_cons_zero, List.set_cons_succ])
          refine lin_step (i := 9) (d := some 62) (v := .int .i64 x.b) rfl rfl (by kernel_rfl) (by kernel_rfl) rfl rfl (ord_value (by kernel_rfl) ?_) ?_
          · intro _ W hS; have hc := RpS.cell1 hS; go_simp
          (try simp only [Act.put, List.setIfInBounds_toArray, List.set_cons_zero, List.set_cons_succ])
          refine lin_step (i := 10) (d := some 63) (v := pageV (q2)) rfl rfl (by kernel_rfl) (by kernel_rfl) rfl rfl (ord_call (f := 18) (args := #[pageV (q1), .int .i64 14, .int .i64 2, .int .i64 x.b]) (by kernel_rfl) ?_ (fun _ W hS => (HC1.out W).mono fun _ _ h => ⟨h.1, RpS.call hS h.2⟩)) ?_
          · intro _; go_simp
          (try simp only [Act.put, List.setIfInBounds_toArray, List.set_cons_zero, List.set_cons_succ])
          refine lin_turn (i := 11) (d := none) (fun u s => u = undef ∧ s = 2) rfl rfl (by kernel_rfl) (by kernel_rfl) rfl (by kernel_rfl) (⟨_, _, rfl, rfl⟩) (by kernel_rfl) (fun W hS => gives_store_page (p := q2) (PutS.page hS) HLR.out (.tmp 3) (.tmp 63) rfl rfl rfl ⟨2, ⟨rfl, rfl⟩, PutS.store hS HLR.out⟩) ?_
          rintro _ _ ⟨rfl, rfl⟩
          (try simp only [Act.put, List.setIfInBounds_toArray, List.set_cons_zero, List.set_cons_succ])
          refine lin_done (by kernel_rfl) ?_
          intro W2 hS
          replace S : Hid (PutS w (q2) zeros x W2) := Lib.hid hS
          clear hS
          go_wp2_with fail
          go_roundw
          case rel => exact ⟨2, by omega, rfl, by rw [← E2.out]; exact S.out⟩
          case measure => simp [intOf]
        · obtain ⟨q1, E1⟩ : ∃ q, Hid (q = Ii.dirP p 0 x 2) := ⟨_, Lib.hid rfl⟩
          obtain ⟨q2, E2⟩ : ∃ q, Hid (q = Ii.dirP p 0 x 3) := ⟨_, Lib.hid rfl⟩
          rw [← E1.out] at hS
          have S := Lib.hid hS
          clear hS
          have HC1 : Hid (∀ W, Calls Try.prog 18 #[pageV q1, .int .i64 16, .int .i64 2, .int .i64 x.c] W fun e w' => e = .returned (pageV q2) ∧ Below W.heap.size W w') := Lib.hid (fun W => by
            rw [E2.out, show Ii.dirP p 0 x 3 = Pg.setN (Ii.dirP p 0 x 2) 16 2 x.c from rfl, ← E1.out]
            exact refSet_any _ _ _ _ W S.out.page.len)
          have HLR : Hid (q2.length = 64) := Lib.hid (by rw [E2.out]; exact Ii.dirP_length p 0 x HP.out (by decide) 3)
          clear E1
          go_wp2_with fail
          refine wp_region_lin (RpS w (q1) (q2) x) (fun i => i == 0 || i == 11) (fun i => [pageV (q1), .int .i64 0, .int .i64 12, .int .i64 2, .int .i64 4, .int .i64 16, .int .i64 2, .pointer (some ⟨w.heap.size + 1, 5, none⟩), .pointer (some ⟨w.heap.size + 1, 7, none⟩), .int .i64 x.c, pageV (q2)].getD i undef) (0) (by kernel_rfl) (by kernel_rfl) (PutS.drew S.out) ?_
          refine lin_turn (i := 0) (d := some 53) (fun u s => u = pageV (q1) ∧ s = 1) rfl rfl (by kernel_rfl) (by kernel_rfl) rfl (by kernel_rfl) (⟨_, _, rfl, rfl⟩) (by kernel_rfl) (fun W hS => gives_value (PageAt.loadsOp (PutS.page hS) rfl rfl) ⟨1, ⟨rfl, rfl⟩, hS⟩) ?_
          rintro _ _ ⟨rfl, rfl⟩
          (try simp only [Act.put, List.setIfInBounds_toArray, List.set_cons_zero, List.set_cons_succ])
          refine lin_step (i := 1) (d := some 54) (v := .int .i64 0) rfl rfl (by kernel_rfl) (by kernel_rfl) rfl rfl (ord_value (by kernel_rfl) ?_) ?_
          · (intro _ _ _; go_simp) <;> kernel_rfl
          (try simp only [Act.put, List.setIfInBounds_toArray, List.set_cons_zero, List.set_cons_succ])
          refine lin_step (i := 2) (d := some 55) (v := .int .i64 12) rfl rfl (by kernel_rfl) (by kernel_rfl) rfl rfl (ord_value (by kernel_rfl) ?_) ?_
          · (intro _ _ _; go_simp) <;> kernel_rfl
          (try simp only [Act.put, List.setIfInBounds_toArray, List.set_cons_zero, List.set_cons_succ])
          refine lin_step (i := 3) (d := some 56) (v := .int .i64 2) rfl rfl (by kernel_rfl) (by kernel_rfl) rfl rfl (ord_value (by kernel_rfl) ?_) ?_
          · (intro _ _ _; go_simp) <;> kernel_rfl
          (try simp only [Act.put, List.setIfInBounds_toArray, List.set_cons_zero, List.set_cons_succ])
          refine lin_step (i := 4) (d := some 57) (v := .int .i64 4) rfl rfl (by kernel_rfl) (by kernel_rfl) rfl rfl (ord_value (by kernel_rfl) ?_) ?_
          · (intro _ _ _; go_simp) <;> kernel_rfl
          (try simp only [Act.put, List.setIfInBounds_toArray, List.set_cons_zero, List.set_cons_succ])
          refine lin_step (i := 5) (d := some 58) (v := .int .i64 16) rfl rfl (by kernel_rfl) (by kernel_rfl) rfl rfl (ord_value (by kernel_rfl) ?_) ?_
          · (intro _ _ _; go_simp) <;> kernel_rfl
          (try simp only [Act.put, List.setIfInBounds_toArray, List.set_cons_zero, List.set_cons_succ])
          refine lin_step (i := 6) (d := some 59) (v := .int .i64 2) rfl rfl (by kernel_rfl) (by kernel_rfl) rfl rfl (ord_value (by kernel_rfl) ?_) ?_
          · (intro _ _ _; go_simp) <;> kernel_rfl
          (try simp only [Act.put, List.setIfInBounds_toArray, List.set_cons_zero, List.set_cons_succ])
          refine lin_step (i := 7) (d := some 60) (v := .pointer (some ⟨w.heap.size + 1, 5, none⟩)) rfl rfl (by kernel_rfl) (by kernel_rfl) rfl rfl (ord_value (by kernel_rfl) ?_) ?_
          · (intro _ _ _; go_simp) <;> kernel_rfl
          (try simp only [Act.put, List.setIfInBounds_toArray, List.set_cons_zero, List.set_cons_succ])
          refine lin_step (i := 8) (d := some 61) (v := .pointer (some ⟨w.heap.size + 1, 7, none⟩)) rfl rfl (by kernel_rfl) (by kernel_rfl) rfl rfl (ord_value (by kernel_rfl) ?_) ?_
          · intro _ W hS; have hix := index_addr2 W (w.heap.size + 1); go_simp
          (try simp only [Act.put, List.setIfInBounds_toArray, List.set_cons_zero, List.set_cons_succ])
          refine lin_step (i := 9) (d := some 62) (v := .int .i64 x.c) rfl rfl (by kernel_rfl) (by kernel_rfl) rfl rfl (ord_value (by kernel_rfl) ?_) ?_
          · intro _ W hS; have hc := RpS.cell2 hS; go_simp
          (try simp only [Act.put, List.setIfInBounds_toArray, List.set_cons_zero, List.set_cons_succ])
          refine lin_step (i := 10) (d := some 63) (v := pageV (q2)) rfl rfl (by kernel_rfl) (by kernel_rfl) rfl rfl (ord_call (f := 18) (args := #[pageV (q1), .int .i64 16, .int .i64 2, .int .i64 x.c]) (by kernel_rfl) ?_ (fun _ W hS => (HC1.out W).mono fun _ _ h => ⟨h.1, RpS.call hS h.2⟩)) ?_
          · intro _; go_simp
          (try simp only [Act.put, List.setIfInBounds_toArray, List.set_cons_zero, List.set_cons_succ])
          refine lin_turn (i := 11) (d := none) (fun u s => u = undef ∧ s = 2) rfl rfl (by kernel_rfl) (by kernel_rfl) rfl (by kernel_rfl) (⟨_, _, rfl, rfl⟩) (by kernel_rfl) (fun W hS => gives_store_page (p := q2) (PutS.page hS) HLR.out (.tmp 3) (.tmp 63) rfl rfl rfl ⟨2, ⟨rfl, rfl⟩, PutS.store hS HLR.out⟩) ?_
          rintro _ _ ⟨rfl, rfl⟩
          (try simp only [Act.put, List.setIfInBounds_toArray, List.set_cons_zero, List.set_cons_succ])
          refine lin_done (by kernel_rfl) ?_
          intro W2 hS
          replace S : Hid (PutS w (q2) zeros x W2) := Lib.hid hS
          clear hS
          go_wp2_with fail
          go_roundw
          case rel => exact ⟨3, by omega, rfl, by rw [← E2.out]; exact S.out⟩
          case measure => simp [intOf]
        · obtain ⟨q1, E1⟩ : ∃ q, Hid (q = Ii.dirP p 0 x 3) := ⟨_, Lib.hid rfl⟩
          obtain ⟨q2, E2⟩ : ∃ q, Hid (q = Ii.dirP p 0 x 4) := ⟨_, Lib.hid rfl⟩
          rw [← E1.out] at hS
          have S := Lib.hid hS
          clear hS
          have HC1 : Hid (∀ W, Calls Try.prog 18 #[pageV q1, .int .i64 18, .int .i64 2, .int .i64 x.d] W fun e w' => e = .returned (pageV q2) ∧ Below W.heap.size W w') := Lib.hid (fun W => by
            rw [E2.out, show Ii.dirP p 0 x 4 = Pg.setN (Ii.dirP p 0 x 3) 18 2 x.d from rfl, ← E1.out]
            exact refSet_any _ _ _ _ W S.out.page.len)
          have HLR : Hid (q2.length = 64) := Lib.hid (by rw [E2.out]; exact Ii.dirP_length p 0 x HP.out (by decide) 4)
          clear E1
          go_wp2_with fail
          refine wp_region_lin (RpS w (q1) (q2) x) (fun i => i == 0 || i == 11) (fun i => [pageV (q1), .int .i64 0, .int .i64 12, .int .i64 3, .int .i64 6, .int .i64 18, .int .i64 3, .pointer (some ⟨w.heap.size + 1, 5, none⟩), .pointer (some ⟨w.heap.size + 1, 8, none⟩), .int .i64 x.d, pageV (q2)].getD i undef) (0) (by kernel_rfl) (by kernel_rfl) (PutS.drew S.out) ?_
          refine lin_turn (i := 0) (d := some 53) (fun u s => u = pageV (q1) ∧ s = 1) rfl rfl (by kernel_rfl) (by kernel_rfl) rfl (by kernel_rfl) (⟨_, _, rfl, rfl⟩) (by kernel_rfl) (fun W hS => gives_value (PageAt.loadsOp (PutS.page hS) rfl rfl) ⟨1, ⟨rfl, rfl⟩, hS⟩) ?_
          rintro _ _ ⟨rfl, rfl⟩
          (try simp only [Act.put, List.setIfInBounds_toArray, List.set_cons_zero, List.set_cons_succ])
          refine lin_step (i := 1) (d := some 54) (v := .int .i64 0) rfl rfl (by kernel_rfl) (by kernel_rfl) rfl rfl (ord_value (by kernel_rfl) ?_) ?_
          · (intro _ _ _; go_simp) <;> kernel_rfl
          (try simp only [Act.put, List.setIfInBounds_toArray, List.set_cons_zero, List.set_cons_succ])
          refine lin_step (i := 2) (d := some 55) (v := .int .i64 12) rfl rfl (by kernel_rfl) (by kernel_rfl) rfl rfl (ord_value (by kernel_rfl) ?_) ?_
          · (intro _ _ _; go_simp) <;> kernel_rfl
          (try simp only [Act.put, List.setIfInBounds_toArray, List.set_cons_zero, List.set_cons_succ])
          refine lin_step (i := 3) (d := some 56) (v := .int .i64 3) rfl rfl (by kernel_rfl) (by kernel_rfl) rfl rfl (ord_value (by kernel_rfl) ?_) ?_
          · (intro _ _ _; go_simp) <;> kernel_rfl
          (try simp only [Act.put, List.setIfInBounds_toArray, List.set_cons_zero, List.set_cons_succ])
          refine lin_step (i := 4) (d := some 57) (v := .int .i64 6) rfl rfl (by kernel_rfl) (by kernel_rfl) rfl rfl (ord_value (by kernel_rfl) ?_) ?_
          · (intro _ _ _; go_simp) <;> kernel_rfl
          (try simp only [Act.put, List.setIfInBounds_toArray, List.set_cons_zero, List.set_cons_succ])
          refine lin_step (i := 5) (d := some 58) (v := .int .i64 18) rfl rfl (by kernel_rfl) (by kernel_rfl) rfl rfl (ord_value (by kernel_rfl) ?_) ?_
          · (intro _ _ _; go_simp) <;> kernel_rfl
          (try simp only [Act.put, List.setIfInBounds_toArray, List.set_cons_zero, List.set_cons_succ])
          refine lin_step (i := 6) (d := some 59) (v := .int .i64 3) rfl rfl (by kernel_rfl) (by kernel_rfl) rfl rfl (ord_value (by kernel_rfl) ?_) ?_
          · (intro _ _ _; go_simp) <;> kernel_rfl
          (try simp only [Act.put, List.setIfInBounds_toArray, List.set_cons_zero, List.set_cons_succ])
          refine lin_step (i := 7) (d := some 60) (v := .pointer (some ⟨w.heap.size + 1, 5, none⟩)) rfl rfl (by kernel_rfl) (by kernel_rfl) rfl rfl (ord_value (by kernel_rfl) ?_) ?_
          · (intro _ _ _; go_simp) <;> kernel_rfl
          (try simp only [Act.put, List.setIfInBounds_toArray, List.set_cons_zero, List.set_cons_succ])
          refine lin_step (i := 8) (d := some 61) (v := .pointer (some ⟨w.heap.size + 1, 8, none⟩)) rfl rfl (by kernel_rfl) (by kernel_rfl) rfl rfl (ord_value (by kernel_rfl) ?_) ?_
          · intro _ W hS; have hix := index_addr3 W (w.heap.size + 1); go_simp
          (try simp only [Act.put, List.setIfInBounds_toArray, List.set_cons_zero, List.set_cons_succ])
          refine lin_step (i := 9) (d := some 62) (v := .int .i64 x.d) rfl rfl (by kernel_rfl) (by kernel_rfl) rfl rfl (ord_value (by kernel_rfl) ?_) ?_
          · intro _ W hS; have hc := RpS.cell3 hS; go_simp
          (try simp only [Act.put, List.setIfInBounds_toArray, List.set_cons_zero, List.set_cons_succ])
          refine lin_step (i := 10) (d := some 63) (v := pageV (q2)) rfl rfl (by kernel_rfl) (by kernel_rfl) rfl rfl (ord_call (f := 18) (args := #[pageV (q1), .int .i64 18, .int .i64 2, .int .i64 x.d]) (by kernel_rfl) ?_ (fun _ W hS => (HC1.out W).mono fun _ _ h => ⟨h.1, RpS.call hS h.2⟩)) ?_
          · intro _; go_simp
          (try simp only [Act.put, List.setIfInBounds_toArray, List.set_cons_zero, List.set_cons_succ])
          refine lin_turn (i := 11) (d := none) (fun u s => u = undef ∧ s = 2) rfl rfl (by kernel_rfl) (by kernel_rfl) rfl (by kernel_rfl) (⟨_, _, rfl, rfl⟩) (by kernel_rfl) (fun W hS => gives_store_page (p := q2) (PutS.page hS) HLR.out (.tmp 3) (.tmp 63) rfl rfl rfl ⟨2, ⟨rfl, rfl⟩, PutS.store hS HLR.out⟩) ?_
          rintro _ _ ⟨rfl, rfl⟩
          (try simp only [Act.put, List.setIfInBounds_toArray, List.set_cons_zero, List.set_cons_succ])
          refine lin_done (by kernel_rfl) ?_
          intro W2 hS
          replace S : Hid (PutS w (q2) zeros x W2) := Lib.hid hS
          clear hS
          go_wp2_with fail
          go_roundw
          case rel => exact ⟨4, by omega, rfl, by rw [← E2.out]; exact S.out⟩
          case measure => simp [intOf]
        · have S := Lib.hid hS
          clear hS
          have hc := S.out.ino.cell 9 _ rfl
          have HL := Lib.hid (Ii.putN_length p 0 x HP.out (by decide))
          go_wp2_with (first
          | (with_reducible refine wpList_load_page S.out.page rfl (.tmp 3) rfl rfl ?_)
          | (go_at_call 18; refine (refSet_len _ _ _ _ _ S.out.page.len).mono ?_; rintro e w' ⟨⟨rfl, hl⟩, hb⟩; have L := Lib.hid hl; clear hl; clear hc; replace S := Lib.hid (S.out.call hb); clear hb)
          | ((with_reducible refine wpList_store_put S.out L.out rfl (.tmp 3) (.tmp 69) rfl rfl ?_ ?_); (exact rfl); intro W2 S2; replace S := Lib.hid S2; clear S2 L; have hc := S.out.ino.cell 10 _ rfl)
          | ((with_reducible refine wpList_store_page S.out.out HL.out rfl (.tmp 6) (.tmp 75) rfl rfl ?_ ?_); (exact rfl)))
          exact bodyPost_ret (results_page _ 6 rfl _ (S.out.back HL.out).1 rfl) rfl ⟨rfl, (S.out.back HL.out).2⟩
end Go.Proofs.Ytchlhnpnenafnaa
