/-
  The project's own read: an instruction of eight bytes.
-/
import Derived.Test.YteobdjgodljjmaaYwrite
import Derived.Test.YteobdjgodljjmaaAlin
namespace Go.Proofs.Yteobdjgodljjmaa
open Go.RowKit Go.Maps
open Pq (PageAt pageV byteVals get_any setText_any wpList_load_page wpList_store_page wpList_store_new zeroCells zeroCells_def)
open Pq.Dk (zeros zeros_length)
open Pq.Pg (getN setTextN setTextN_length)

theorem num1 (a : UInt8) : Pq.Pg.numOf [a] = (a.toNat : Int) := by simp [Pq.Pg.numOf]
theorem num2 (a b : UInt8) : Pq.Pg.numOf [a, b] = (a.toNat : Int) * 256 + b.toNat := by simp [Pq.Pg.numOf]
theorem num4 (a b c d : UInt8) : Pq.Pg.numOf [a, b, c, d] = (((a.toNat : Int) * 256 + b.toNat) * 256 + c.toNat) * 256 + d.toNat := by simp [Pq.Pg.numOf]
theorem wrap16 (n : Int) : IntKind.i16.wrap n = (n + 32768) % 65536 - 32768 := by
  simp [IntKind.wrap, IntKind.bits, IntKind.signed]
  split <;> omega
/-- what the page tells of eight bytes -/
structure Parts (x : Y.In) (a r f m : Int) : Prop where
  op : a = x.op
  dst : r / 16 = x.dst
  src : r % 16 = x.src
  off : IntKind.i16.wrap f = x.off
  imm : IntKind.i32.wrap m = x.imm
  reg : 0 ≤ r ∧ r < 256
  bo : -32768 ≤ x.off ∧ x.off ≤ 32767
  bi : -2147483648 ≤ x.imm ∧ x.imm ≤ 2147483647
theorem parts (l : List UInt8) (h : l.length = 8) : Parts (Y.read1 l) (getN (setTextN zeros 0 l) 0 1) (getN (setTextN zeros 0 l) 1 1) (getN (setTextN zeros 0 l) 2 2) (getN (setTextN zeros 0 l) 4 4) := by
  obtain ⟨a0, a1, a2, a3, a4, a5, a6, a7, rfl⟩ := Y.eight l h
  have e0 : getN (setTextN zeros 0 [a0, a1, a2, a3, a4, a5, a6, a7]) 0 1 = Pq.Pg.numOf [a0] := rfl
  have e1 : getN (setTextN zeros 0 [a0, a1, a2, a3, a4, a5, a6, a7]) 1 1 = Pq.Pg.numOf [a1] := rfl
  have e2 : getN (setTextN zeros 0 [a0, a1, a2, a3, a4, a5, a6, a7]) 2 2 = Pq.Pg.numOf [a2, a3] := rfl
  have e4 : getN (setTextN zeros 0 [a0, a1, a2, a3, a4, a5, a6, a7]) 4 4 = Pq.Pg.numOf [a4, a5, a6, a7] := rfl
  have r : Y.read1 [a0, a1, a2, a3, a4, a5, a6, a7] = ⟨(a0.toNat : Int), (a1.toNat : Int) / 16, (a1.toNat : Int) % 16, Y.signed [a2, a3], Y.signed [a4, a5, a6, a7]⟩ := rfl
  rw [e0, e1, e2, e4, r, num1, num1, num2, num4, Y.signed2, Y.signed4]
  have := Y.byte_lt a0; have := Y.byte_lt a1; have := Y.byte_lt a2; have := Y.byte_lt a3; have := Y.byte_lt a4; have := Y.byte_lt a5; have := Y.byte_lt a6; have := Y.byte_lt a7
  refine ⟨rfl, rfl, rfl, ?_, ?_, by omega, ?_, ?_⟩
  · rw [wrap16]; simp only; split <;> omega
  · rw [IntKind.wrap_i32]; simp only; split <;> omega
  · simp only; split <;> omega
  · simp only; split <;> omega
/-- the result's cells, and the page, while an instruction is read -/
structure RdC (w0 : World) (R C : Nat) (x : Y.In) (p : List UInt8) (k : Bool) (W : World) : Prop where
  res : RowAt W R (if k then inL x else inL ⟨0, 0, 0, 0, 0⟩)
  page : PageAt W C p
  far : R ≠ C ∧ w0.heap.size ≤ R
  bel : Below w0.heap.size w0 W
theorem RdC.lt {w0 : World} {R C : Nat} {x : Y.In} {p : List UInt8} {k : Bool} {W : World} (h : RdC w0 R C x p k W) : R < W.heap.size := rows_lt h.res (by cases k <;> simp [inL])
theorem RdC.call {w0 : World} {R C : Nat} {x : Y.In} {p : List UInt8} {k : Bool} {W W' : World} (h : RdC w0 R C x p k W) (hb : Below W.heap.size W W') : RdC w0 R C x p k W' :=
  ⟨h.res.below hb h.lt, h.page.below hb h.page.lt, h.far, h.bel.trans (hb.mono h.bel.size)⟩
theorem RdC.done {w0 : World} {R C : Nat} {x : Y.In} {p : List UInt8} {W : World} (h : RdC w0 R C x p false W) : RdC w0 R C x p true (W.setCells R 0 (inL x)) :=
  ⟨h.res.put (inL x) rfl, h.page.put_other R 0 _ (Ne.symm h.far.1), h.far, below_setCells _ h.far.2 _ _ _ h.bel⟩
theorem run_ldpage {ρ : Operand → Value} {op : Oper} {x : Operand} {b : Nat} {p : List UInt8} {w : World} (hp : PageAt w b p) (ho : op.op = .load 67 x) (hx : ρ x = .pointer (some ⟨b, 0, none⟩)) :
    (execOp ρ op).run Try.prog w = .ok (.value (pageV p)) w := by
  have := hp.loadsAt
  unfold execOp
  simp only [ho, hx, Sem.run_bind, this, Result.andThen_ok, Sem.run_map, Sem.run_pure]
theorem gives_store {t : TypeId} {n : Nat} (ht : RowT t n) {op : Oper} {a : Act} {w : World} {R : Value → World → Prop} {b : Nat} {us vs : List Value} (k : RowAt w b us) (hu : us.length = n) (hl : vs.length = n) (ho1 : ∀ v ∈ vs, v.oneCell' = true) (x y : Operand) (ho : op.op = .store t x y)
    (hx : a.eval x = .pointer (some ⟨b, 0, none⟩)) (hy : a.eval y = .agg vs.toArray) (h : R undef (w.setCells b 0 vs)) : Gives Try.prog (execOp a.eval op) w R := by
  have := run_storeAt_mid (P := Try.prog) w b 0 t vs.toArray (by rw [List.size_toArray, hl, ← hu]; exact k.free) (by rw [ht.info, List.size_toArray, hl]) (all_oneCell_toArray ho1)
  unfold Gives execOp
  simp only [ho, hx, hy, Sem.run_bind, this, Result.andThen_ok, Sem.run_map, Sem.run_pure]
  exact h
set_option maxRecDepth 100000 in
set_option maxHeartbeats 4000000 in
theorem read_any (s : ByteArray) (w : World) (hs : s.size = 8) : Calls Try.prog 25 #[.string s] w fun e w' => e = .returned (.agg (inL (Y.read1 s.data.toList)).toArray) ∧ Below w.heap.size w w' := by
  have hl : s.data.toList.length = 8 := by rw [Array.length_toList]; exact hs
  have HP := Lib.hid (parts s.data.toList hl)
  have HT := Lib.hid (fun w => setText_any zeros 0 s w zeros_length (by unfold maxLen; omega))
  have LP := Lib.hid (setTextN_length zeros 0 s.data.toList zeros_length)
  generalize Y.read1 s.data.toList = x at HP ⊢
  generalize setTextN zeros 0 s.data.toList = p at HP HT LP
  have HG0 := Lib.hid (fun w => get_any p 0 1 w LP.out (by omega) (by omega))
  have HG1 := Lib.hid (fun w => get_any p 1 1 w LP.out (by omega) (by omega))
  have HG2 := Lib.hid (fun w => get_any p 2 2 w LP.out (by omega) (by omega))
  have HG4 := Lib.hid (fun w => get_any p 4 4 w LP.out (by omega) (by omega))
  generalize getN p 0 1 = a at HP HG0
  generalize getN p 1 1 = r at HP HG1
  generalize getN p 2 2 = f at HP HG2
  generalize getN p 4 4 = m at HP HG4
  have S0 : Hid (RowAt (w.alloc (.cells #[.int .i64 0, .int .i64 0, .int .i64 0, .int .i64 0, .int .i64 0] 42)) w.heap.size (inL ⟨0, 0, 0, 0, 0⟩)) := Lib.hid (rowAt_new w (inL ⟨0, 0, 0, 0, 0⟩) _)
  have B0 : Hid (Below w.heap.size w (w.alloc (.cells #[.int .i64 0, .int .i64 0, .int .i64 0, .int .i64 0, .int .i64 0] 42))) := Lib.hid ((Below.refl _ _).alloc (Nat.le_refl _) _)
  clear hs hl
  go_enter Try.func25, Try.ntmps25
  go_upto_region 1 with fail
  generalize w.alloc (.cells #[.int .i64 0, .int .i64 0, .int .i64 0, .int .i64 0, .int .i64 0] 42) = W1 at S0 B0 ⊢
  go_wp2_with fail
  rw [← zeroCells_def]
  refine (HT.out _).mono ?_
  rintro e w2 ⟨rfl, hb⟩
  have S1 := Lib.hid (RowAt.step S0.out hb)
  have B1 := Lib.hid (B0.out.trans (hb.mono B0.out.size))
  have hlt := Lib.hid (Nat.lt_of_lt_of_le S0.out.lt hb.size)
  clear hb S0 B0 HT
  go_upto_region 3 with (first
    | ((with_reducible refine wpList_store_new rfl (.tmp 3) (.tmp 7) rfl rfl ?_ ?_ LP.out ?_); (exact rfl); (exact rfl); intro W3 hP hB hz; have S : Hid (RdC w w.heap.size w2.heap.size x p false W3) := Lib.hid ⟨S1.out.below hB hlt.out, hP, ⟨Nat.ne_of_lt hlt.out, Nat.le_refl _⟩, B1.out.trans (hB.mono B1.out.size)⟩; clear S1 B1 hlt hP hB hz; generalize w2.heap.size = C at S ⊢)
    | (with_reducible refine wpList_load_page S.out.page rfl (.tmp 3) rfl rfl ?_)
    | (go_at_call 38; (with_reducible refine (HG1.out _).mono ?_); rintro e w' ⟨rfl, hb⟩; replace S := Lib.hid (S.out.call hb); clear hb))
  have HX : Hid (.agg #[.int .i64 a, .int .i64 (r / 16), .int .i64 (r % 16), .int .i64 x.off, .int .i64 x.imm] = inV x) := Lib.hid (by unfold inV inL; rw [HP.out.op, HP.out.dst, HP.out.src])
  have HQ : Hid (r.tdiv 16 = r / 16) := Lib.hid (Int.tdiv_eq_ediv_of_nonneg HP.out.reg.1)
  have HQ2 : Hid (r.tmod 16 = r % 16) := Lib.hid (Int.tmod_eq_emod_of_nonneg HP.out.reg.1)
  have HF := Lib.hid HP.out.off
  have HI := Lib.hid HP.out.imm
  have hr0 := HP.out.reg.1
  have hr1 := HP.out.reg.2
  have hf0 := HP.out.bo.1
  have hf1 := HP.out.bo.2
  have hi0 := HP.out.bi.1
  have hi1 := HP.out.bi.2
  clear HP HG1
  refine wp_region_lin (RdC w w.heap.size C x p) (fun i => i == 15) (fun i => [pageV p, .int .i64 a, .int .i64 r, .int .i64 (r / 16), .int .i64 r, .int .i64 (r % 16), pageV p, .int .i64 f, .int .i16 x.off, .int .i64 x.off, pageV p, .int .i64 m, .int .i32 x.imm, .int .i64 x.imm, inV x, undef].getD i undef) (false) (by kernel_rfl) (by kernel_rfl) (S.out.call (Below.refl _ _).drew) ?_
  refine lin_step (i := 0) (d := some 10) (v := pageV p) rfl rfl (by kernel_rfl) (by kernel_rfl) rfl rfl (ord_value (by kernel_rfl) (fun _ _ hS => run_ldpage hS.page rfl rfl)) ?_
  (try simp only [Act.put, List.setIfInBounds_toArray, List.set_cons_zero, List.set_cons_succ])
  refine lin_step (i := 1) (d := some 11) (v := .int .i64 a) rfl rfl (by kernel_rfl) (by kernel_rfl) rfl rfl (ord_call (f := 38) (args := #[pageV p, .int .i64 0, .int .i64 1]) (by kernel_rfl) ?_ (fun _ w' hS => ((HG0.out w').mono fun _ _ ⟨he, hb⟩ => ⟨he, hS.call hb⟩))) ?_
  · (intro _; go_simp <;> rfl)
  (try simp only [Act.put, List.setIfInBounds_toArray, List.set_cons_zero, List.set_cons_succ])
  refine lin_step (i := 2) (d := some 12) (v := .int .i64 r) rfl rfl (by kernel_rfl) (by kernel_rfl) rfl rfl (ord_value (by kernel_rfl) ?_) ?_
  · (intro _ w' _; go_simp)
  (try simp only [Act.put, List.setIfInBounds_toArray, List.set_cons_zero, List.set_cons_succ])
  refine lin_step (i := 3) (d := some 13) (v := .int .i64 (r / 16)) rfl rfl (by kernel_rfl) (by kernel_rfl) rfl rfl (ord_value (by kernel_rfl) ?_) ?_
  · (intro _ w' _; have := HQ.out; go_simp; try exact IntWalk.i64_in _ (by omega))
  (try simp only [Act.put, List.setIfInBounds_toArray, List.set_cons_zero, List.set_cons_succ])
  refine lin_step (i := 4) (d := some 14) (v := .int .i64 r) rfl rfl (by kernel_rfl) (by kernel_rfl) rfl rfl (ord_value (by kernel_rfl) ?_) ?_
  · (intro _ w' _; go_simp)
  (try simp only [Act.put, List.setIfInBounds_toArray, List.set_cons_zero, List.set_cons_succ])
  refine lin_step (i := 5) (d := some 15) (v := .int .i64 (r % 16)) rfl rfl (by kernel_rfl) (by kernel_rfl) rfl rfl (ord_value (by kernel_rfl) ?_) ?_
  · (intro _ w' _; have := HQ2.out; go_simp; try exact IntWalk.i64_in _ (by omega))
  (try simp only [Act.put, List.setIfInBounds_toArray, List.set_cons_zero, List.set_cons_succ])
  refine lin_step (i := 6) (d := some 16) (v := pageV p) rfl rfl (by kernel_rfl) (by kernel_rfl) rfl rfl (ord_value (by kernel_rfl) (fun _ _ hS => run_ldpage hS.page rfl rfl)) ?_
  (try simp only [Act.put, List.setIfInBounds_toArray, List.set_cons_zero, List.set_cons_succ])
  refine lin_step (i := 7) (d := some 17) (v := .int .i64 f) rfl rfl (by kernel_rfl) (by kernel_rfl) rfl rfl (ord_call (f := 38) (args := #[pageV p, .int .i64 2, .int .i64 2]) (by kernel_rfl) ?_ (fun _ w' hS => ((HG2.out w').mono fun _ _ ⟨he, hb⟩ => ⟨he, hS.call hb⟩))) ?_
  · (intro _; go_simp <;> rfl)
  (try simp only [Act.put, List.setIfInBounds_toArray, List.set_cons_zero, List.set_cons_succ])
  refine lin_step (i := 8) (d := some 18) (v := .int .i16 x.off) rfl rfl (by kernel_rfl) (by kernel_rfl) rfl rfl (ord_value (by kernel_rfl) ?_) ?_
  · (intro _ w' _; have := HF.out; go_simp)
  (try simp only [Act.put, List.setIfInBounds_toArray, List.set_cons_zero, List.set_cons_succ])
  refine lin_step (i := 9) (d := some 19) (v := .int .i64 x.off) rfl rfl (by kernel_rfl) (by kernel_rfl) rfl rfl (ord_value (by kernel_rfl) ?_) ?_
  · (intro _ w' _; go_simp; try exact IntWalk.i64_in _ (by omega))
  (try simp only [Act.put, List.setIfInBounds_toArray, List.set_cons_zero, List.set_cons_succ])
  refine lin_step (i := 10) (d := some 20) (v := pageV p) rfl rfl (by kernel_rfl) (by kernel_rfl) rfl rfl (ord_value (by kernel_rfl) (fun _ _ hS => run_ldpage hS.page rfl rfl)) ?_
  (try simp only [Act.put, List.setIfInBounds_toArray, List.set_cons_zero, List.set_cons_succ])
  refine lin_step (i := 11) (d := some 21) (v := .int .i64 m) rfl rfl (by kernel_rfl) (by kernel_rfl) rfl rfl (ord_call (f := 38) (args := #[pageV p, .int .i64 4, .int .i64 4]) (by kernel_rfl) ?_ (fun _ w' hS => ((HG4.out w').mono fun _ _ ⟨he, hb⟩ => ⟨he, hS.call hb⟩))) ?_
  · (intro _; go_simp <;> rfl)
  (try simp only [Act.put, List.setIfInBounds_toArray, List.set_cons_zero, List.set_cons_succ])
  refine lin_step (i := 12) (d := some 22) (v := .int .i32 x.imm) rfl rfl (by kernel_rfl) (by kernel_rfl) rfl rfl (ord_value (by kernel_rfl) ?_) ?_
  · (intro _ w' _; have := HI.out; go_simp)
  (try simp only [Act.put, List.setIfInBounds_toArray, List.set_cons_zero, List.set_cons_succ])
  refine lin_step (i := 13) (d := some 23) (v := .int .i64 x.imm) rfl rfl (by kernel_rfl) (by kernel_rfl) rfl rfl (ord_value (by kernel_rfl) ?_) ?_
  · (intro _ w' _; go_simp; try exact IntWalk.i64_in _ (by omega))
  (try simp only [Act.put, List.setIfInBounds_toArray, List.set_cons_zero, List.set_cons_succ])
  refine lin_step (i := 14) (d := some 24) (v := inV x) rfl rfl (by kernel_rfl) (by kernel_rfl) rfl rfl (ord_value (by kernel_rfl) ?_) ?_
  · (intro _ w' _; have := HX.out; go_simp)
  (try simp only [Act.put, List.setIfInBounds_toArray, List.set_cons_zero, List.set_cons_succ])
  refine lin_turnD (i := 15) (d := none) [] (fun _ s => s = true) rfl rfl (by kernel_rfl) (by kernel_rfl) rfl (by kernel_rfl) (⟨undef, true, rfl⟩) (by kernel_rfl) (fun W hS => gives_store inT hS.res rfl rfl (inL_one x) (.tmp 2) (.tmp 24) rfl rfl rfl ⟨true, rfl, hS.done⟩) ?_
  intro u s' hs
  subst hs
  (try simp only [Act.put, List.setIfInBounds_toArray, List.set_cons_zero, List.set_cons_succ])
  refine lin_done (by kernel_rfl) ?_
  intro W hS
  have S9 := Lib.hid hS
  clear hS S
  go_wp2
  exact bodyPost_ret (results_row inT _ 2 rfl _ S9.out.res (inL_length x) rfl) rfl ⟨rfl, S9.out.bel⟩
end Go.Proofs.Yteobdjgodljjmaa
