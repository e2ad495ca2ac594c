/-
  A jump done, a number reckoned, an end.
-/
import Derived.Test.YthngbakbiocadaaMo
import Derived.Test.YthngbakbiocadaaMc

namespace Go.Proofs.Ythngbakbiocadaa
set_option maxRecDepth 100000
open Go.ChangeShapes Go.WideShapes Go.ChangeAt Go.RowKit Go.Maps
open V
section
variable {E : Ev} {S : Nat → Prop} {s : V.St} {W : World}
theorem RunTo.back {W1 W2 : World} {t : V.St} (hb : Below W.heap.size W W1) (h : RunTo E S W1 t W2) : RunTo E S W t W2 := RunTo.trans (But.of_below hb) (fun _ hk => Or.inl hk) h
set_option maxHeartbeats 1000000 in
theorem exit_any (hE : EvOk E) (h : RunAt E S s W) (hs : s.steps ≤ 1000) : Calls Try.prog 61 #[.pointer (some ⟨E.R, 0, none⟩)] W (Wr E S W (match (s.r 0).nm with
    | .error y => .flt y s
    | .ok n => .done n { s with steps := s.steps + 1 })) := by
  cases hn : (s.r 0).nm with
  | error y =>
    have HN := Lib.hid (number_no h 0 ⟨by omega, by omega⟩ hn)
    have H := Lib.hid (fun w2 (hb : Below W.heap.size W w2) => RunTo.self h hb)
    clear h hn
    go_enter Try.func61, Try.ntmps61
    go_wp2_with (go_at_call 53; refine (HN.out).mono ?_; rintro e w2 ⟨rfl, hb⟩; exact ⟨rfl, rfl, H.out _ hb⟩)
  | ok n =>
    have HN := Lib.hid (number_ok h 0 ⟨by omega, by omega⟩ hn)
    have H := Lib.hid h
    have hw : IntKind.i64.wrap ((s.steps : Int) + 1) = ((s.steps + 1 : Nat) : Int) := by rw [IntKind.wrap_i64]; omega
    clear h hn
    go_enter Try.func61, Try.ntmps61
    go_wp2_with (go_at_call 53; refine (HN.out).mono ?_; rintro e w2 ⟨rfl, hb⟩; have H2 := H.out.step hb; have c8 := H2.tail 1 _ rfl; have f8 := H2.frz 54 (by omega); have HB := Lib.hid hb; have HR := Lib.hid (H2.setSteps hE (s.steps + 1)); clear hb H2)
    exact ⟨rfl, rfl, RunTo.back HB.out HR.out⟩
theorem ops_imm {x : Y.In} {a b : Int} (h : opsF s x = .ok (a, b)) (hi : Y.hasImm x.op = true) : b = x.imm := by
  unfold opsF at h
  rw [if_pos hi] at h
  split at h
  · cases h
  · injection h with h
    injection h with _ h
    exact h.symm
/-- in this world: the box, and the run's at -/
def JmpC (W : World) (x : Y.In) (R : Nat) (at_ : Int) (w' : World) : Prop := Yq.BoxS W W.heap.size x w' ∧ w'.cell? ⟨R, 53, none⟩ = some (.int .i64 at_)
set_option maxHeartbeats 2000000 in
theorem jump_any (hE : EvOk E) (h : RunAt E S s W) (x : Y.In) (hx : Y.Bd x) (ho : 32 ≤ x.op ∧ x.op ≤ 40) (ha : -100000 ≤ s.at_ ∧ s.at_ ≤ 100000) : Calls Try.prog 63 #[.pointer (some ⟨E.R, 0, none⟩), .agg #[.int .i64 x.op, .int .i64 x.dst, .int .i64 x.src, .int .i64 x.off, .int .i64 x.imm]] W (Wr E S W (match jmpF s x with
    | .error y => .flt y s
    | .ok b => .on (if b then s.jump x.off else s))) := by
  have HJ := Lib.hid (fun W' (hb : Below W.heap.size W W') => jumps_any (h.step hb) x hx ho)
  have H := Lib.hid h
  have hw : Hid (IntKind.i64.wrap (s.at_ + x.off) = s.at_ + x.off) := Lib.hid (by rw [IntKind.wrap_i64]; have := hx.off; omega)
  have HX := Lib.hid (Yq.boxS_new W x 64)
  clear h hx ho ha
  cases hj : jmpF s x with
  | error y =>
    rw [hj] at HJ
    clear hj
    go_enter Try.func63, Try.ntmps63
    go_upto_region 1 with fail
    generalize W.alloc (.cells #[.int .i64 x.op, .int .i64 x.dst, .int .i64 x.src, .int .i64 x.off, .int .i64 x.imm] 64) = W1 at HX ⊢
    obtain ⟨c0, c1, c2, c3, c4⟩ := HX.out.cells
    go_wp2_with (go_at_call 70; (with_reducible refine (HJ.out _ HX.out.bel).mono ?_); rintro e w2 ⟨rfl, hb⟩; exact ⟨rfl, rfl, RunTo.self H.out (HX.out.bel.trans (hb.mono HX.out.bel.size))⟩)
  | ok b =>
    rw [hj] at HJ
    clear hj
    cases b with
    | false =>
      go_enter Try.func63, Try.ntmps63
      go_upto_region 1 with fail
      generalize W.alloc (.cells #[.int .i64 x.op, .int .i64 x.dst, .int .i64 x.src, .int .i64 x.off, .int .i64 x.imm] 64) = W1 at HX ⊢
      obtain ⟨c0, c1, c2, c3, c4⟩ := HX.out.cells
      go_wp2_with (go_at_call 70; (with_reducible refine (HJ.out _ HX.out.bel).mono ?_); rintro e w2 ⟨rfl, hb⟩; unfold RdE boolV; have HX2 := Lib.hid (HX.out.call hb); clear hb)
      go_end0
      exact ⟨rfl, RunTo.self H.out HX2.out.bel⟩
    | true =>
      go_enter Try.func63, Try.ntmps63
      go_upto_region 1 with fail
      generalize W.alloc (.cells #[.int .i64 x.op, .int .i64 x.dst, .int .i64 x.src, .int .i64 x.off, .int .i64 x.imm] 64) = W1 at HX ⊢
      obtain ⟨c0, c1, c2, c3, c4⟩ := HX.out.cells
      go_upto_region 2 with (go_at_call 70; (with_reducible refine (HJ.out _ HX.out.bel).mono ?_); rintro e w2 ⟨rfl, hb⟩; unfold RdE boolV; have HX2 := Lib.hid (HX.out.call hb); clear hb c0 c1 c2 c3 c4 HX)
      have H2 := H.out.step (HX2.out.bel.trans ((drew_below _).mono HX2.out.bel.size))
      obtain ⟨c0, c1, c2, c3, c4⟩ := (HX2.out.call (drew_below _)).cells
      have ca := H2.tail 0 _ rfl
      have fa := H2.frz 53 (by omega)
      have HR := Lib.hid (H2.setAt hE (s.at_ + x.off))
      clear H2
      refine ws_region 9 (by kernel_rfl) ?_
      simp only [List.take_succ_cons, List.take_zero, List.drop_succ_cons, List.drop_zero]
      refine ws_take (.pointer (some ⟨E.R, 0, none⟩)) (by kernel_rfl) ?_ ?_
      · (go_simp)
      (try simp only [Act.put, List.setIfInBounds_toArray, List.set_cons_zero, List.set_cons_succ])
      refine ws_take (.pointer (some ⟨E.R, 0, none⟩)) (by kernel_rfl) ?_ ?_
      · (go_simp)
      (try simp only [Act.put, List.setIfInBounds_toArray, List.set_cons_zero, List.set_cons_succ])
      refine ws_take (.pointer (some ⟨E.R, 53, none⟩)) (by kernel_rfl) ?_ ?_
      · (go_simp)
      (try simp only [Act.put, List.setIfInBounds_toArray, List.set_cons_zero, List.set_cons_succ])
      refine ws_take (.int .i64 s.at_) (by kernel_rfl) ?_ ?_
      · (go_simp)
      (try simp only [Act.put, List.setIfInBounds_toArray, List.set_cons_zero, List.set_cons_succ])
      refine ws_take (.pointer (some ⟨W.heap.size, 3, none⟩)) (by kernel_rfl) ?_ ?_
      · (go_simp)
      (try simp only [Act.put, List.setIfInBounds_toArray, List.set_cons_zero, List.set_cons_succ])
      refine ws_take (.int .i64 x.off) (by kernel_rfl) ?_ ?_
      · (go_simp)
      (try simp only [Act.put, List.setIfInBounds_toArray, List.set_cons_zero, List.set_cons_succ])
      refine ws_take (.int .i64 (s.at_ + x.off)) (by kernel_rfl) ?_ ?_
      · ((rw [← hw.out]; go_simp))
      (try simp only [Act.put, List.setIfInBounds_toArray, List.set_cons_zero, List.set_cons_succ])
      refine ws_take (.pointer (some ⟨E.R, 0, none⟩)) (by kernel_rfl) ?_ ?_
      · (go_simp)
      (try simp only [Act.put, List.setIfInBounds_toArray, List.set_cons_zero, List.set_cons_succ])
      refine ws_take (.pointer (some ⟨E.R, 53, none⟩)) (by kernel_rfl) ?_ ?_
      · (go_simp)
      (try simp only [Act.put, List.setIfInBounds_toArray, List.set_cons_zero, List.set_cons_succ])
      refine ws_nil ?_
      go_wp2
      go_end0
      exact ⟨rfl, RunTo.back (HX2.out.bel.trans ((drew_below _).mono HX2.out.bel.size)) HR.out⟩
set_option maxHeartbeats 2000000 in
theorem reckon_any (hE : EvOk E) (h : RunAt E S s W) (x : Y.In) (hx : Y.Bd x) (ho : 16 ≤ x.op ∧ x.op ≤ 27) (hsh : x.op = 26 ∨ x.op = 27 → 0 ≤ x.imm ∧ x.imm ≤ 63) : Calls Try.prog 64 #[.pointer (some ⟨E.R, 0, none⟩), .agg #[.int .i64 x.op, .int .i64 x.dst, .int .i64 x.src, .int .i64 x.off, .int .i64 x.imm]] W (Wr E S W (match opsF s x with
    | .error y => .flt y s
    | .ok (a, b) => .on (s.setR x.dst (.num (ariF x.op a b))))) := by
  have HP := Lib.hid (fun W' (hb : Below W.heap.size W W') => operands_any (h.step hb) x hx)
  have H := Lib.hid h
  have HD : Hid (0 ≤ x.dst ∧ x.dst < 8) := Lib.hid ⟨hx.dst.1, by have := hx.dst.2; omega⟩
  have HX := Lib.hid (Yq.boxS_new W x 64)
  cases hj : opsF s x with
  | error y =>
    rw [hj] at HP
    clear h hx ho hsh hj
    go_enter Try.func64, Try.ntmps64
    go_upto_region 1 with fail
    generalize W.alloc (.cells #[.int .i64 x.op, .int .i64 x.dst, .int .i64 x.src, .int .i64 x.off, .int .i64 x.imm] 64) = W1 at HX ⊢
    obtain ⟨c0, c1, c2, c3, c4⟩ := HX.out.cells
    go_wp2_with (go_at_call 71; (with_reducible refine (HP.out _ HX.out.bel).mono ?_); rintro e w2 ⟨rfl, hb⟩; exact ⟨rfl, rfl, RunTo.self H.out (HX.out.bel.trans (hb.mono HX.out.bel.size))⟩)
  | ok p =>
    obtain ⟨a, b⟩ := p
    have HRS := Lib.hid (result_any x.op a b ho (fun e => by
      rw [ops_imm hj (by rcases e with e | e <;> rw [e] <;> rfl)]
      exact hsh e))
    rw [hj] at HP
    clear h hx ho hsh hj
    go_enter Try.func64, Try.ntmps64
    go_upto_region 1 with fail
    generalize W.alloc (.cells #[.int .i64 x.op, .int .i64 x.dst, .int .i64 x.src, .int .i64 x.off, .int .i64 x.imm] 64) = W1 at HX ⊢
    obtain ⟨c0, c1, c2, c3, c4⟩ := HX.out.cells
    go_upto_region 2 with (go_at_call 71; (with_reducible refine (HP.out _ HX.out.bel).mono ?_); rintro e w2 ⟨rfl, hb⟩; unfold RdE num2V; have HX2 := Lib.hid (HX.out.call hb); clear hb c0 c1 c2 c3 c4 HX)
    have HB := Lib.hid (HX2.out.bel.trans ((drew_below _).mono HX2.out.bel.size))
    obtain ⟨c0, c1, c2, c3, c4⟩ := (HX2.out.call (drew_below _)).cells
    have HL := Lib.hid (load_any hE (H.out.step HB.out) x.dst (ariF x.op a b) HD.out)
    show _
    have HQ : Hid (∀ w, Calls Try.prog 72 #[.int .i64 x.op, .int .i64 a, .int .i64 b] w fun e w' => e = .returned (.int .i64 (ariF x.op a b)) ∧ w = w') := Lib.hid (fun w => HRS.out w)
    generalize ariF x.op a b = r at HL HQ ⊢
    clear HRS
    refine ws_region 8 (by kernel_rfl) ?_
    simp only [List.take_succ_cons, List.take_zero, List.drop_succ_cons, List.drop_zero]
    refine ws_take (.pointer (some ⟨E.R, 0, none⟩)) (by kernel_rfl) ?_ ?_
    · (go_simp)
    (try simp only [Act.put, List.setIfInBounds_toArray, List.set_cons_zero, List.set_cons_succ])
    refine ws_take (.pointer (some ⟨W.heap.size, 1, none⟩)) (by kernel_rfl) ?_ ?_
    · (go_simp)
    (try simp only [Act.put, List.setIfInBounds_toArray, List.set_cons_zero, List.set_cons_succ])
    refine ws_take (.int .i64 x.dst) (by kernel_rfl) ?_ ?_
    · (go_simp)
    (try simp only [Act.put, List.setIfInBounds_toArray, List.set_cons_zero, List.set_cons_succ])
    refine ws_take (.pointer (some ⟨W.heap.size, 0, none⟩)) (by kernel_rfl) ?_ ?_
    · (go_simp)
    (try simp only [Act.put, List.setIfInBounds_toArray, List.set_cons_zero, List.set_cons_succ])
    refine ws_take (.int .i64 x.op) (by kernel_rfl) ?_ ?_
    · (go_simp)
    (try simp only [Act.put, List.setIfInBounds_toArray, List.set_cons_zero, List.set_cons_succ])
    refine ws_take (.int .i64 a) (by kernel_rfl) ?_ ?_
    · (go_simp)
    (try simp only [Act.put, List.setIfInBounds_toArray, List.set_cons_zero, List.set_cons_succ])
    refine ws_take (.int .i64 b) (by kernel_rfl) ?_ ?_
    · (go_simp)
    (try simp only [Act.put, List.setIfInBounds_toArray, List.set_cons_zero, List.set_cons_succ])
    refine ws_call 72 #[.int .i64 x.op, .int .i64 a, .int .i64 b] (.int .i64 r) (by kernel_rfl) (by go_simp <;> rfl) (HQ.out _) ?_
    (try simp only [Act.put, List.setIfInBounds_toArray, List.set_cons_zero, List.set_cons_succ])
    refine ws_nil ?_
    clear c0 c1 c2 c3 c4
    go_wp2_with (go_at_call 51; (with_reducible refine (HL.out).mono ?_); rintro e w3 ⟨rfl, hto⟩; have HT := Lib.hid hto; clear hto)
    go_end0
    exact ⟨rfl, RunTo.back HB.out HT.out⟩
end
end Go.Proofs.Ythngbakbiocadaa

/-
  The value that a register refers to.
-/
namespace Go.Proofs.Ythngbakbiocadaa
set_option maxRecDepth 100000
open Go.ChangeShapes Go.WideShapes Go.ChangeAt Go.RowKit Go.Maps
open V
theorem wvT : RowT 60 4 := valT
theorem results_rows {t u : TypeId} {n m : Nat} (ht : RowT t n) (hu : RowT u m) (fn : Func) (s r : Nat) (hf : fn.results = #[.cell s t, .cell r u]) {w : World} {b c : Nat} {vs us : List Value} (tmps : Array Value) (k : RowAt w b vs) (hl : vs.length = n) (hs : tmps.getD s undef = .pointer (some ⟨b, 0, none⟩)) (k2 : RowAt w c us) (hl2 : us.length = m) (hr : tmps.getD r undef = .pointer (some ⟨c, 0, none⟩)) :
    (results fn tmps).run Try.prog w = .ok (.tuple #[.agg vs.toArray, .agg us.toArray]) w := by
  have h1 := k.loads ht hl
  have h2 := k2.loads hu hl2
  unfold results
  rw [hf]
  simp only [Array.mapM_eq_mapM_toList, List.mapM_cons, List.mapM_nil, hs, hr, asAddr, Sem.run_bind, Sem.run_pure, Result.andThen_ok, h1, h2, Sem.run_map]
  rfl
theorem run_load_row {t : TypeId} {n : Nat} (ht : RowT t n) {a : Act} {op : Oper} {w : World} {b : Nat} {vs : List Value} (k : RowAt w b vs) (hl : vs.length = n) (x : Operand) (ho : op.op = .load t x) (hx : a.eval x = .pointer (some ⟨b, 0, none⟩)) : (execOp a.eval op).run Try.prog w = .ok (.value (.agg vs.toArray)) w := by
  unfold execOp
  have := k.loads ht hl
  simp only [ho, hx, Instr.loadAt, Instr.sureAddr, Sem.run_bind, Sem.run_pure, Result.andThen_ok, this]
theorem run_store_row {t : TypeId} {n : Nat} (ht : RowT t n) {a : Act} {op : Oper} {w : World} {b : Nat} {us vs : List Value} (k : RowAt w b us) (hu : us.length = n) (hl : vs.length = n) (ho1 : ∀ v ∈ vs, v.oneCell' = true) (x y : Operand) (ho : op.op = .store t x y) (hx : a.eval x = .pointer (some ⟨b, 0, none⟩)) (hy : a.eval y = .agg vs.toArray) : (execOp a.eval op).run Try.prog w = .ok .skip (w.setCells b 0 vs) := by
  have := run_storeAt_mid (P := Try.prog) w b 0 t vs.toArray (by rw [List.size_toArray, hl, ← hu]; exact k.free) (by rw [ht.info, List.size_toArray, hl]) (all_oneCell_toArray ho1)
  unfold execOp
  simp only [ho, hx, hy, Sem.run_bind, this, Result.andThen_ok, Sem.run_pure]
/-- two results copied out of two variables -/
structure SlS (w0 : World) (b6 b7 b8 b9 : Nat) (v8 v9 u6 u7 : List Value) (k : Bool × Bool) (W : World) : Prop where
  r6 : RowAt W b6 (if k.1 then v8 else u6)
  r7 : RowAt W b7 (if k.2 then v9 else u7)
  r8 : RowAt W b8 v8
  r9 : RowAt W b9 v9
  bel : Below w0.heap.size w0 W
section
variable {w0 W : World} {b6 b7 b8 b9 : Nat} {v8 v9 u6 u7 : List Value}
theorem sl_store6 {k2 : Bool} {a : Act} {op : Oper} (h : SlS w0 b6 b7 b8 b9 v8 v9 u6 u7 (false, k2) W) (hd : b6 ≠ b7 ∧ b6 ≠ b8 ∧ b6 ≠ b9) (hb : w0.heap.size ≤ b6) {t : TypeId} {n : Nat} (ht : RowT t n) (hu : u6.length = n) (hl : v8.length = n) (h1 : ∀ v ∈ v8, v.oneCell' = true) (x y : Operand) (ho : op.op = .store t x y) (hx : a.eval x = .pointer (some ⟨b6, 0, none⟩)) (hy : a.eval y = .agg v8.toArray) :
    Gives Try.prog (execOp a.eval op) W fun u w' => ∃ s', (u = undef ∧ s' = (true, k2)) ∧ SlS w0 b6 b7 b8 b9 v8 v9 u6 u7 s' w' :=
  gives_skip (run_store_row ht h.r6 hu hl h1 x y ho hx hy) ⟨_, ⟨rfl, rfl⟩, ⟨h.r6.put _ (by show v8.length = u6.length; rw [hl, hu]), h.r7.put_other _ _ _ (Ne.symm hd.1), h.r8.put_other _ _ _ (Ne.symm hd.2.1), h.r9.put_other _ _ _ (Ne.symm hd.2.2), below_setCells _ hb _ _ _ h.bel⟩⟩
theorem sl_store7 {k1 : Bool} {a : Act} {op : Oper} (h : SlS w0 b6 b7 b8 b9 v8 v9 u6 u7 (k1, false) W) (hd : b7 ≠ b6 ∧ b7 ≠ b8 ∧ b7 ≠ b9) (hb : w0.heap.size ≤ b7) {t : TypeId} {n : Nat} (ht : RowT t n) (hu : u7.length = n) (hl : v9.length = n) (h1 : ∀ v ∈ v9, v.oneCell' = true) (x y : Operand) (ho : op.op = .store t x y) (hx : a.eval x = .pointer (some ⟨b7, 0, none⟩)) (hy : a.eval y = .agg v9.toArray) :
    Gives Try.prog (execOp a.eval op) W fun u w' => ∃ s', (u = undef ∧ s' = (k1, true)) ∧ SlS w0 b6 b7 b8 b9 v8 v9 u6 u7 s' w' :=
  gives_skip (run_store_row ht h.r7 hu hl h1 x y ho hx hy) ⟨_, ⟨rfl, rfl⟩, ⟨h.r6.put_other _ _ _ (Ne.symm hd.1), h.r7.put _ (by show v9.length = u7.length; rw [hl, hu]), h.r8.put_other _ _ _ (Ne.symm hd.2.1), h.r9.put_other _ _ _ (Ne.symm hd.2.2), below_setCells _ hb _ _ _ h.bel⟩⟩
end
section
variable {E : Ev} {S : Nat → Prop} {s : V.St} {W : World}
set_option maxHeartbeats 2000000 in
theorem slot_no (i : Nat) (hi : i < 8) (off : Int) (hr : ∀ W', Below W.heap.size W W' → W'.rangeAt E.R (5 + i * 3) [.int .i64 0, .int .i64 0, .pointer none]) : Calls Try.prog 65 #[.pointer (some ⟨E.R, 0, none⟩), .int .i64 (i : Int), .int .i64 off] W fun e w' => e = whyE 9 ∧ Below W.heap.size W w' := by
  have HR := Lib.hid hr
  have hi0 : (0 : Int) ≤ (i : Int) := by omega
  have hi8 : (i : Int) < 8 := by omega
  clear hr
  have R6 := Lib.hid ((rowAt_new W [.int .i64 0, .int .i64 0, .pointer none] 79).alloc (.cells #[.int .i64 0, .int .i64 0, .int .i64 0, .int .i64 0] 60))
  have R7 : Hid (RowAt ((W.alloc (.cells #[.int .i64 0, .int .i64 0, .pointer none] 79)).alloc (.cells #[.int .i64 0, .int .i64 0, .int .i64 0, .int .i64 0] 60)) (W.heap.size + 1) [.int .i64 0, .int .i64 0, .int .i64 0, .int .i64 0]) := Lib.hid (by
    have := rowAt_new (W.alloc (.cells #[.int .i64 0, .int .i64 0, .pointer none] 79)) [.int .i64 0, .int .i64 0, .int .i64 0, .int .i64 0] 60
    rwa [World.size_alloc] at this)
  have HB := Lib.hid ((below_new W (.cells #[.int .i64 0, .int .i64 0, .pointer none] 79)).trans ((below_new _ (.cells #[.int .i64 0, .int .i64 0, .int .i64 0, .int .i64 0] 60)).mono (below_new W _).size))
  have HZ : Hid (((W.alloc (.cells #[.int .i64 0, .int .i64 0, .pointer none] 79)).alloc (.cells #[.int .i64 0, .int .i64 0, .int .i64 0, .int .i64 0] 60)).heap.size = W.heap.size + 2) := Lib.hid (by rw [World.size_alloc, World.size_alloc])
  go_enter Try.func65, Try.ntmps65
  go_upto_region 1 with fail
  generalize World.alloc _ _ = W1 at R6 R7 HB HZ ⊢
  have HC := Lib.hid (HR.out _ HB.out)
  go_wp2_with (first | ((with_reducible refine wpList_load_at vvT (vs := [.int .i64 0, .int .i64 0, .pointer none]) HC.out rfl rfl (.tmp 15) rfl ?_ ?_); (exact rfl)) | (go_at_call 47; refine (ask_no 9 _).mono ?_; rintro e w5 ⟨rfl, rfl⟩; exact ⟨rfl, rfl, (HidB HB (below_new _ _)).out⟩))
set_option maxHeartbeats 2000000 in
theorem slot_num (n : Int) (i : Nat) (hi : i < 8) (off : Int) (hr : ∀ W', Below W.heap.size W W' → W'.rangeAt E.R (5 + i * 3) [.int .i64 1, .int .i64 n, .pointer none]) : Calls Try.prog 65 #[.pointer (some ⟨E.R, 0, none⟩), .int .i64 (i : Int), .int .i64 off] W fun e w' => e = whyE 9 ∧ Below W.heap.size W w' := by
  have HR := Lib.hid hr
  have hi0 : (0 : Int) ≤ (i : Int) := by omega
  have hi8 : (i : Int) < 8 := by omega
  clear hr
  have R6 := Lib.hid ((rowAt_new W [.int .i64 0, .int .i64 0, .pointer none] 79).alloc (.cells #[.int .i64 0, .int .i64 0, .int .i64 0, .int .i64 0] 60))
  have R7 : Hid (RowAt ((W.alloc (.cells #[.int .i64 0, .int .i64 0, .pointer none] 79)).alloc (.cells #[.int .i64 0, .int .i64 0, .int .i64 0, .int .i64 0] 60)) (W.heap.size + 1) [.int .i64 0, .int .i64 0, .int .i64 0, .int .i64 0]) := Lib.hid (by
    have := rowAt_new (W.alloc (.cells #[.int .i64 0, .int .i64 0, .pointer none] 79)) [.int .i64 0, .int .i64 0, .int .i64 0, .int .i64 0] 60
    rwa [World.size_alloc] at this)
  have HB := Lib.hid ((below_new W (.cells #[.int .i64 0, .int .i64 0, .pointer none] 79)).trans ((below_new _ (.cells #[.int .i64 0, .int .i64 0, .int .i64 0, .int .i64 0] 60)).mono (below_new W _).size))
  have HZ : Hid (((W.alloc (.cells #[.int .i64 0, .int .i64 0, .pointer none] 79)).alloc (.cells #[.int .i64 0, .int .i64 0, .int .i64 0, .int .i64 0] 60)).heap.size = W.heap.size + 2) := Lib.hid (by rw [World.size_alloc, World.size_alloc])
  go_enter Try.func65, Try.ntmps65
  go_upto_region 1 with fail
  generalize World.alloc _ _ = W1 at R6 R7 HB HZ ⊢
  have HC := Lib.hid (HR.out _ HB.out)
  go_wp2_with (first | ((with_reducible refine wpList_load_at vvT (vs := [.int .i64 1, .int .i64 n, .pointer none]) HC.out rfl rfl (.tmp 15) rfl ?_ ?_); (exact rfl)) | (go_at_call 47; refine (ask_no 9 _).mono ?_; rintro e w5 ⟨rfl, rfl⟩; exact ⟨rfl, rfl, (HidB HB (below_new _ _)).out⟩))
set_option maxHeartbeats 4000000 in
theorem slot_stale (k : Int) (g : Nat) (i : Nat) (hi : i < 8) (off : Int) (hr : ∀ W', Below W.heap.size W W' → W'.rangeAt E.R (5 + i * 3) [.int .i64 2, .int .i64 k, .pointer (some ⟨g, 0, none⟩)]) (hg : ∀ W', Below W.heap.size W W' → Calls Try.prog 21 #[.pointer (some ⟨g, 0, none⟩), .int .i64 k] W' fun e w' => e = .returned (.tuple #[.agg #[.int .i64 0, .int .i64 0, .int .i64 0, .int .i64 0], .bool false]) ∧ Below W'.heap.size W' w') : Calls Try.prog 65 #[.pointer (some ⟨E.R, 0, none⟩), .int .i64 (i : Int), .int .i64 off] W fun e w' => e = whyE 10 ∧ Below W.heap.size W w' := by
  have HR := Lib.hid hr
  have HG := Lib.hid hg
  have hi0 : (0 : Int) ≤ (i : Int) := by omega
  have hi8 : (i : Int) < 8 := by omega
  clear hr hg
  have R6 := Lib.hid ((rowAt_new W [.int .i64 0, .int .i64 0, .pointer none] 79).alloc (.cells #[.int .i64 0, .int .i64 0, .int .i64 0, .int .i64 0] 60))
  have R7 : Hid (RowAt ((W.alloc (.cells #[.int .i64 0, .int .i64 0, .pointer none] 79)).alloc (.cells #[.int .i64 0, .int .i64 0, .int .i64 0, .int .i64 0] 60)) (W.heap.size + 1) [.int .i64 0, .int .i64 0, .int .i64 0, .int .i64 0]) := Lib.hid (by
    have := rowAt_new (W.alloc (.cells #[.int .i64 0, .int .i64 0, .pointer none] 79)) [.int .i64 0, .int .i64 0, .int .i64 0, .int .i64 0] 60
    rwa [World.size_alloc] at this)
  have HB := Lib.hid ((below_new W (.cells #[.int .i64 0, .int .i64 0, .pointer none] 79)).trans ((below_new _ (.cells #[.int .i64 0, .int .i64 0, .int .i64 0, .int .i64 0] 60)).mono (below_new W _).size))
  have HZ : Hid (((W.alloc (.cells #[.int .i64 0, .int .i64 0, .pointer none] 79)).alloc (.cells #[.int .i64 0, .int .i64 0, .int .i64 0, .int .i64 0] 60)).heap.size = W.heap.size + 2) := Lib.hid (by rw [World.size_alloc, World.size_alloc])
  go_enter Try.func65, Try.ntmps65
  go_upto_region 1 with fail
  generalize World.alloc _ _ = W1 at R6 R7 HB HZ ⊢
  have HC := Lib.hid (HR.out _ HB.out)
  have R8 := Lib.hid (rowAt_new W1 [.int .i64 2, .int .i64 k, .pointer (some ⟨g, 0, none⟩)] 79)
  have R6' := Lib.hid (R6.out.alloc (.cells #[.int .i64 2, .int .i64 k, .pointer (some ⟨g, 0, none⟩)] 79))
  have R7' := Lib.hid (R7.out.alloc (.cells #[.int .i64 2, .int .i64 k, .pointer (some ⟨g, 0, none⟩)] 79))
  have HB2 := HidB HB (below_new W1 (.cells #[.int .i64 2, .int .i64 k, .pointer (some ⟨g, 0, none⟩)] 79))
  have HZ2 : Hid ((W1.alloc (.cells #[.int .i64 2, .int .i64 k, .pointer (some ⟨g, 0, none⟩)] 79)).heap.size = W.heap.size + 3) := Lib.hid (by rw [World.size_alloc, HZ.out])
  have HZ1 : Hid (W1.heap.size = W.heap.size + 2) := HZ
  clear R6 R7 HB HZ
  go_upto_region 2 with ((with_reducible refine wpList_load_at vvT (vs := [.int .i64 2, .int .i64 k, .pointer (some ⟨g, 0, none⟩)]) HC.out rfl rfl (.tmp 15) rfl ?_ ?_); (exact rfl))
  generalize World.alloc _ _ = W2 at R6' R7' R8 HB2 HZ2 ⊢
  have d0 := R8.out.cell 0 _ rfl
  have d1 := R8.out.cell 1 _ rfl
  have d2 := R8.out.cell 2 _ rfl
  go_wp2_with (first | (go_at_call 21; (with_reducible refine (HG.out _ HB2.out).mono ?_); rintro e w3 ⟨rfl, hb⟩; have HB3 := HidB HB2 hb; have HS := Lib.hid hb; clear hb) | (go_at_call 47; (first | (with_reducible refine (ask_yes _ _).mono ?_; rintro e w5 ⟨rfl, rfl⟩) | (refine (ask_no 10 _).mono ?_; rintro e w5 ⟨rfl, rfl⟩; exact ⟨rfl, rfl, (HidB HB3 (below_new _ _)).out⟩))))
set_option maxHeartbeats 4000000 in
theorem slot_out (k : Int) (g : Nat) (a b c d : Int) (i : Nat) (hi : i < 8) (off : Int) (ho : inb off 4 = false) (hr : ∀ W', Below W.heap.size W W' → W'.rangeAt E.R (5 + i * 3) [.int .i64 2, .int .i64 k, .pointer (some ⟨g, 0, none⟩)]) (hg : ∀ W', Below W.heap.size W W' → Calls Try.prog 21 #[.pointer (some ⟨g, 0, none⟩), .int .i64 k] W' fun e w' => e = .returned (.tuple #[.agg #[.int .i64 a, .int .i64 b, .int .i64 c, .int .i64 d], .bool true]) ∧ Below W'.heap.size W' w') : Calls Try.prog 65 #[.pointer (some ⟨E.R, 0, none⟩), .int .i64 (i : Int), .int .i64 off] W fun e w' => e = whyE 11 ∧ Below W.heap.size W w' := by
  have HR := Lib.hid hr
  have HG := Lib.hid hg
  have HO := Lib.hid ho
  have hi0 : (0 : Int) ≤ (i : Int) := by omega
  have hi8 : (i : Int) < 8 := by omega
  clear hr hg ho
  have R6 := Lib.hid ((rowAt_new W [.int .i64 0, .int .i64 0, .pointer none] 79).alloc (.cells #[.int .i64 0, .int .i64 0, .int .i64 0, .int .i64 0] 60))
  have R7 : Hid (RowAt ((W.alloc (.cells #[.int .i64 0, .int .i64 0, .pointer none] 79)).alloc (.cells #[.int .i64 0, .int .i64 0, .int .i64 0, .int .i64 0] 60)) (W.heap.size + 1) [.int .i64 0, .int .i64 0, .int .i64 0, .int .i64 0]) := Lib.hid (by
    have := rowAt_new (W.alloc (.cells #[.int .i64 0, .int .i64 0, .pointer none] 79)) [.int .i64 0, .int .i64 0, .int .i64 0, .int .i64 0] 60
    rwa [World.size_alloc] at this)
  have HB := Lib.hid ((below_new W (.cells #[.int .i64 0, .int .i64 0, .pointer none] 79)).trans ((below_new _ (.cells #[.int .i64 0, .int .i64 0, .int .i64 0, .int .i64 0] 60)).mono (below_new W _).size))
  have HZ : Hid (((W.alloc (.cells #[.int .i64 0, .int .i64 0, .pointer none] 79)).alloc (.cells #[.int .i64 0, .int .i64 0, .int .i64 0, .int .i64 0] 60)).heap.size = W.heap.size + 2) := Lib.hid (by rw [World.size_alloc, World.size_alloc])
  go_enter Try.func65, Try.ntmps65
  go_upto_region 1 with fail
  generalize World.alloc _ _ = W1 at R6 R7 HB HZ ⊢
  have HC := Lib.hid (HR.out _ HB.out)
  have R8 := Lib.hid (rowAt_new W1 [.int .i64 2, .int .i64 k, .pointer (some ⟨g, 0, none⟩)] 79)
  have R6' := Lib.hid (R6.out.alloc (.cells #[.int .i64 2, .int .i64 k, .pointer (some ⟨g, 0, none⟩)] 79))
  have R7' := Lib.hid (R7.out.alloc (.cells #[.int .i64 2, .int .i64 k, .pointer (some ⟨g, 0, none⟩)] 79))
  have HB2 := HidB HB (below_new W1 (.cells #[.int .i64 2, .int .i64 k, .pointer (some ⟨g, 0, none⟩)] 79))
  have HZ2 : Hid ((W1.alloc (.cells #[.int .i64 2, .int .i64 k, .pointer (some ⟨g, 0, none⟩)] 79)).heap.size = W.heap.size + 3) := Lib.hid (by rw [World.size_alloc, HZ.out])
  have HZ1 : Hid (W1.heap.size = W.heap.size + 2) := HZ
  clear R6 R7 HB HZ
  go_upto_region 2 with ((with_reducible refine wpList_load_at vvT (vs := [.int .i64 2, .int .i64 k, .pointer (some ⟨g, 0, none⟩)]) HC.out rfl rfl (.tmp 15) rfl ?_ ?_); (exact rfl))
  generalize World.alloc _ _ = W2 at R6' R7' R8 HB2 HZ2 ⊢
  have d0 := R8.out.cell 0 _ rfl
  have d1 := R8.out.cell 1 _ rfl
  have d2 := R8.out.cell 2 _ rfl
  go_wp2_with (first | (go_at_call 21; (with_reducible refine (HG.out _ HB2.out).mono ?_); rintro e w3 ⟨rfl, hb⟩; have HB3 := HidB HB2 hb; have HS := Lib.hid hb; clear hb) | (go_at_call 48; refine (within_any _ _ _).mono ?_; rintro e w2 ⟨rfl, rfl⟩; rw [HO.out]) | (go_at_call 47; (first | (with_reducible refine (ask_yes _ _).mono ?_; rintro e w5 ⟨rfl, rfl⟩) | (refine (ask_no 11 _).mono ?_; rintro e w5 ⟨rfl, rfl⟩; exact ⟨rfl, rfl, (HidB HB3 (below_new _ _)).out⟩))))
set_option maxHeartbeats 4000000 in
theorem slot_in (k : Int) (g : Nat) (a b c d : Int) (i : Nat) (hi : i < 8) (off : Int) (ho : inb off 4 = true) (hr : ∀ W', Below W.heap.size W W' → W'.rangeAt E.R (5 + i * 3) [.int .i64 2, .int .i64 k, .pointer (some ⟨g, 0, none⟩)]) (hg : ∀ W', Below W.heap.size W W' → Calls Try.prog 21 #[.pointer (some ⟨g, 0, none⟩), .int .i64 k] W' fun e w' => e = .returned (.tuple #[.agg #[.int .i64 a, .int .i64 b, .int .i64 c, .int .i64 d], .bool true]) ∧ Below W'.heap.size W' w') : Calls Try.prog 65 #[.pointer (some ⟨E.R, 0, none⟩), .int .i64 (i : Int), .int .i64 off] W fun e w' => e = .returned (.tuple #[.agg #[.int .i64 2, .int .i64 k, .pointer (some ⟨g, 0, none⟩)], .agg #[.int .i64 a, .int .i64 b, .int .i64 c, .int .i64 d]]) ∧ Below W.heap.size W w' := by
  have HR := Lib.hid hr
  have HG := Lib.hid hg
  have HO := Lib.hid ho
  have hi0 : (0 : Int) ≤ (i : Int) := by omega
  have hi8 : (i : Int) < 8 := by omega
  clear hr hg ho
  have R6 := Lib.hid ((rowAt_new W [.int .i64 0, .int .i64 0, .pointer none] 79).alloc (.cells #[.int .i64 0, .int .i64 0, .int .i64 0, .int .i64 0] 60))
  have R7 : Hid (RowAt ((W.alloc (.cells #[.int .i64 0, .int .i64 0, .pointer none] 79)).alloc (.cells #[.int .i64 0, .int .i64 0, .int .i64 0, .int .i64 0] 60)) (W.heap.size + 1) [.int .i64 0, .int .i64 0, .int .i64 0, .int .i64 0]) := Lib.hid (by
    have := rowAt_new (W.alloc (.cells #[.int .i64 0, .int .i64 0, .pointer none] 79)) [.int .i64 0, .int .i64 0, .int .i64 0, .int .i64 0] 60
    rwa [World.size_alloc] at this)
  have HB := Lib.hid ((below_new W (.cells #[.int .i64 0, .int .i64 0, .pointer none] 79)).trans ((below_new _ (.cells #[.int .i64 0, .int .i64 0, .int .i64 0, .int .i64 0] 60)).mono (below_new W _).size))
  have HZ : Hid (((W.alloc (.cells #[.int .i64 0, .int .i64 0, .pointer none] 79)).alloc (.cells #[.int .i64 0, .int .i64 0, .int .i64 0, .int .i64 0] 60)).heap.size = W.heap.size + 2) := Lib.hid (by rw [World.size_alloc, World.size_alloc])
  go_enter Try.func65, Try.ntmps65
  go_upto_region 1 with fail
  generalize World.alloc _ _ = W1 at R6 R7 HB HZ ⊢
  have HC := Lib.hid (HR.out _ HB.out)
  have R8 := Lib.hid (rowAt_new W1 [.int .i64 2, .int .i64 k, .pointer (some ⟨g, 0, none⟩)] 79)
  have R6' := Lib.hid (R6.out.alloc (.cells #[.int .i64 2, .int .i64 k, .pointer (some ⟨g, 0, none⟩)] 79))
  have R7' := Lib.hid (R7.out.alloc (.cells #[.int .i64 2, .int .i64 k, .pointer (some ⟨g, 0, none⟩)] 79))
  have HB2 := HidB HB (below_new W1 (.cells #[.int .i64 2, .int .i64 k, .pointer (some ⟨g, 0, none⟩)] 79))
  have HZ2 : Hid ((W1.alloc (.cells #[.int .i64 2, .int .i64 k, .pointer (some ⟨g, 0, none⟩)] 79)).heap.size = W.heap.size + 3) := Lib.hid (by rw [World.size_alloc, HZ.out])
  have HZ1 : Hid (W1.heap.size = W.heap.size + 2) := HZ
  clear R6 R7 HB HZ
  go_upto_region 2 with ((with_reducible refine wpList_load_at vvT (vs := [.int .i64 2, .int .i64 k, .pointer (some ⟨g, 0, none⟩)]) HC.out rfl rfl (.tmp 15) rfl ?_ ?_); (exact rfl))
  generalize World.alloc _ _ = W2 at R6' R7' R8 HB2 HZ2 ⊢
  have d0 := R8.out.cell 0 _ rfl
  have d1 := R8.out.cell 1 _ rfl
  have d2 := R8.out.cell 2 _ rfl
  go_upto_region 6 with (first | (go_at_call 21; (with_reducible refine (HG.out _ HB2.out).mono ?_); rintro e w3 ⟨rfl, hb⟩; have HB3 := HidB HB2 hb; have HS := Lib.hid hb; clear hb) | (go_at_call 48; refine (within_any _ _ _).mono ?_; rintro e w2 ⟨rfl, rfl⟩; rw [HO.out]) | (go_at_call 47; refine (ask_yes _ _).mono ?_; rintro e w5 ⟨rfl, rfl⟩))
  have HZ3 := Lib.hid (Nat.le_trans (Nat.le_of_eq HZ2.out.symm) HS.out.size)
  have hs : SlS W W.heap.size (W.heap.size + 1) W1.heap.size w3.heap.size [.int .i64 2, .int .i64 k, .pointer (some ⟨g, 0, none⟩)] [.int .i64 a, .int .i64 b, .int .i64 c, .int .i64 d] [.int .i64 0, .int .i64 0, .pointer none] [.int .i64 0, .int .i64 0, .int .i64 0, .int .i64 0] (false, false) (w3.alloc (.cells #[.int .i64 a, .int .i64 b, .int .i64 c, .int .i64 d] 60)).drew := ⟨((R6'.out.step HS.out).alloc _).drew, ((R7'.out.step HS.out).alloc _).drew, ((R8.out.step HS.out).alloc _).drew, (rowAt_new w3 [.int .i64 a, .int .i64 b, .int .i64 c, .int .i64 d] _).drew, (HidB HB3 (below_new _ _)).out.drew⟩
  have hne : W.heap.size ≠ W.heap.size + 1 ∧ W.heap.size ≠ W1.heap.size ∧ W.heap.size ≠ w3.heap.size := ⟨by omega, by have := HZ1.out; omega, by have := HZ3.out; omega⟩
  have hne2 : W.heap.size + 1 ≠ W.heap.size ∧ W.heap.size + 1 ≠ W1.heap.size ∧ W.heap.size + 1 ≠ w3.heap.size := ⟨by omega, by have := HZ1.out; omega, by have := HZ3.out; omega⟩
  have HN := Lib.hid hne
  have HN2 := Lib.hid hne2
  have HS0 := Lib.hid hs
  clear hs hne hne2 d0 d1 d2
  refine wp_region_lin (SlS W W.heap.size (W.heap.size + 1) W1.heap.size w3.heap.size [.int .i64 2, .int .i64 k, .pointer (some ⟨g, 0, none⟩)] [.int .i64 a, .int .i64 b, .int .i64 c, .int .i64 d] [.int .i64 0, .int .i64 0, .pointer none] [.int .i64 0, .int .i64 0, .int .i64 0, .int .i64 0]) (fun i => i == 2 || i == 3) (fun i => [.agg #[.int .i64 2, .int .i64 k, .pointer (some ⟨g, 0, none⟩)], .agg #[.int .i64 a, .int .i64 b, .int .i64 c, .int .i64 d], undef, undef].getD i undef) ((false, false)) (by kernel_rfl) (by kernel_rfl) (HS0.out) ?_
  refine lin_step (i := 0) (d := some 34) (v := .agg #[.int .i64 2, .int .i64 k, .pointer (some ⟨g, 0, none⟩)]) rfl rfl (by kernel_rfl) (by kernel_rfl) rfl rfl (ord_value (by kernel_rfl) (fun s' w' hS => run_load_row vvT hS.r8 rfl (.tmp 8) rfl rfl)) ?_
  (try simp only [Act.put, List.setIfInBounds_toArray, List.set_cons_zero, List.set_cons_succ])
  refine lin_step (i := 1) (d := some 35) (v := .agg #[.int .i64 a, .int .i64 b, .int .i64 c, .int .i64 d]) rfl rfl (by kernel_rfl) (by kernel_rfl) rfl rfl (ord_value (by kernel_rfl) (fun s' w' hS => run_load_row wvT hS.r9 rfl (.tmp 9) rfl rfl)) ?_
  (try simp only [Act.put, List.setIfInBounds_toArray, List.set_cons_zero, List.set_cons_succ])
  refine lin_turnD (i := 2) (d := none) [3] (fun u s' => u = undef ∧ s' = (true, false)) rfl rfl (by kernel_rfl) (by kernel_rfl) rfl (by kernel_rfl) (⟨_, _, rfl, rfl⟩) (by kernel_rfl) (fun w' hS => sl_store6 hS HN.out (Nat.le_refl _) vvT rfl rfl (cellL_one [g] (.ref k 0)) (.tmp 6) (.tmp 34) rfl rfl rfl) ?_
  rintro _ _ ⟨rfl, rfl⟩
  (try simp only [Act.put, List.setIfInBounds_toArray, List.set_cons_zero, List.set_cons_succ])
  refine lin_turnD (i := 3) (d := none) [] (fun u s' => u = undef ∧ s' = (true, true)) rfl rfl (by kernel_rfl) (by kernel_rfl) rfl (by kernel_rfl) (⟨_, _, rfl, rfl⟩) (by kernel_rfl) (fun w' hS => sl_store7 hS HN2.out (Nat.le_succ _) wvT rfl rfl (wordsL_one ⟨0, a, b, c, d⟩) (.tmp 7) (.tmp 35) rfl rfl rfl) ?_
  rintro _ _ ⟨rfl, rfl⟩
  (try simp only [Act.put, List.setIfInBounds_toArray, List.set_cons_zero, List.set_cons_succ])
  refine lin_done (by kernel_rfl) ?_
  intro w' hS
  go_wp2
  exact bodyPost_ret (results_rows vvT wvT _ 6 7 rfl _ hS.r6 rfl rfl hS.r7 rfl rfl) rfl ⟨rfl, hS.bel⟩
end
end Go.Proofs.Ythngbakbiocadaa

/-
  Values loaded and stored.
-/
namespace Go.Proofs.Ythngbakbiocadaa
set_option maxRecDepth 100000
open Go.ChangeShapes Go.WideShapes Go.ChangeAt Go.RowKit Go.Maps
open V
section
variable {E : Ev} {S : Nat → Prop} {s : V.St} {W : World}
def SlotE (off : Int) (g : Nat) (k : Int) (o : Option Z.En) : Ending := match o with
  | none => whyE 10
  | some e => if inb off 4 then .returned (.tuple #[.agg #[.int .i64 2, .int .i64 k, .pointer (some ⟨g, 0, none⟩)], .agg #[.int .i64 e.a, .int .i64 e.b, .int .i64 e.c, .int .i64 e.d]]) else whyE 11
theorem gotV_none : gotV none = .tuple #[.agg #[.int .i64 0, .int .i64 0, .int .i64 0, .int .i64 0], .bool false] := rfl
theorem gotV_some (e : Z.En) : gotV (some e) = .tuple #[.agg #[.int .i64 e.a, .int .i64 e.b, .int .i64 e.c, .int .i64 e.d], .bool true] := rfl
theorem slot_9 (h : RunAt E S s W) (i off : Int) (hi : 0 ≤ i ∧ i < 8) (hc : isRef (s.r i) = false) : Calls Try.prog 65 #[.pointer (some ⟨E.R, 0, none⟩), .int .i64 i, .int .i64 off] W fun e w' => e = whyE 9 ∧ Below W.heap.size W w' := by
  obtain ⟨j, rfl⟩ : ∃ j : Nat, i = (j : Int) := ⟨i.toNat, by omega⟩
  have hj : j < 8 := by omega
  have hR := fun W' (hb : Below W.heap.size W W') => (h.step hb).regs j hj
  rw [← r_nat] at hR
  generalize s.r (j : Int) = c at hR hc
  cases c with
  | no => exact slot_no j hj off hR
  | num n => exact slot_num n j hj off hR
  | ref k m => cases hc
theorem slot_ref (h : RunAt E S s W) (i off : Int) (hi : 0 ≤ i ∧ i < 8) {k : Int} {m : Nat} (hc : s.r i = .ref k m) {d : Dt} (hd : s.ds[m]? = some d) : Calls Try.prog 65 #[.pointer (some ⟨E.R, 0, none⟩), .int .i64 i, .int .i64 off] W fun e w' => e = SlotE off (E.bs.getD m 0) k (Z.getI k d.l) ∧ Below W.heap.size W w' := by
  obtain ⟨j, rfl⟩ : ∃ j : Nat, i = (j : Int) := ⟨i.toNat, by omega⟩
  have hj : j < 8 := by omega
  have hR := fun W' (hb : Below W.heap.size W W') => (h.step hb).regs j hj
  rw [← r_nat, hc] at hR
  have hG := fun W' (hb : Below W.heap.size W W') => st_get (h.step hb).st hd (h.wf.oks d (List.mem_of_getElem? hd)) k
  cases ho : Z.getI k d.l with
  | none =>
    rw [ho, gotV_none] at hG
    exact slot_stale k _ j hj off hR hG
  | some e =>
    rw [ho, gotV_some] at hG
    unfold SlotE
    cases hi : inb off 4 with
    | true => exact slot_in k _ e.a e.b e.c e.d j hj off hi hR hG
    | false => exact slot_out k _ e.a e.b e.c e.d j hj off hi hR hG
theorem ds_of (h : RunAt E S s W) {i : Int} {k : Int} {m : Nat} (hc : s.r i = .ref k m) : ∃ d, s.ds[m]? = some d := by
  have : m < s.ds.length := h.wf.refs k m (by
    unfold V.St.r at hc
    have hlt : i.toNat < s.reg.length := by
      by_cases hl : i.toNat < s.reg.length
      · exact hl
      · have e : s.reg.getD i.toNat .no = .no := by simp [List.getD, List.getElem?_eq_none (Nat.le_of_not_lt hl)]
        rw [e] at hc; cases hc
    have e : s.reg.getD i.toNat .no = s.reg[i.toNat] := by simp [List.getD, hlt]
    rw [e] at hc
    rw [← hc]
    exact List.getElem_mem hlt)
  exact ⟨_, List.getElem?_eq_getElem this⟩
set_option maxHeartbeats 2000000 in
theorem loadVal_unset (x : Y.In) (ha : ∀ W', Below W.heap.size W W' → ∀ t, Calls Try.prog 50 #[.pointer (some ⟨E.R, 0, none⟩), .slice (some ⟨W'.heap.size, 0, none⟩) 1 1] (W'.alloc (.cells #[.int .i64 x.src] t)) fun e w' => e = whyE 3 ∧ Below W'.heap.size W' w') : Calls Try.prog 58 #[.pointer (some ⟨E.R, 0, none⟩), .agg #[.int .i64 x.op, .int .i64 x.dst, .int .i64 x.src, .int .i64 x.off, .int .i64 x.imm]] W fun e w' => e = whyE 3 ∧ Below W.heap.size W w' := by
  have HA := Lib.hid ha
  have HX := Lib.hid (Yq.boxS_new W x 64)
  clear ha
  go_enter Try.func58, Try.ntmps58
  go_upto_region 1 with fail
  generalize W.alloc (.cells #[.int .i64 x.op, .int .i64 x.dst, .int .i64 x.src, .int .i64 x.off, .int .i64 x.imm] 64) = W1 at HX ⊢
  obtain ⟨c0, c1, c2, c3, c4⟩ := HX.out.cells
  go_wp2_with (go_at_call 50; (with_reducible refine (HA.out _ HX.out.bel _).mono ?_); rintro e w2 ⟨rfl, hb⟩; exact ⟨rfl, rfl, HX.out.bel.trans (hb.mono HX.out.bel.size)⟩)
set_option maxHeartbeats 2000000 in
theorem loadVal_no (x : Y.In) {y : Nat} (ha : ∀ W', Below W.heap.size W W' → ∀ t, Calls Try.prog 50 #[.pointer (some ⟨E.R, 0, none⟩), .slice (some ⟨W'.heap.size, 0, none⟩) 1 1] (W'.alloc (.cells #[.int .i64 x.src] t)) fun e w' => e = .returned (.tuple #[]) ∧ Below W'.heap.size W' w') (hs : ∀ W', Below W.heap.size W W' → Calls Try.prog 65 #[.pointer (some ⟨E.R, 0, none⟩), .int .i64 x.src, .int .i64 x.off] W' fun e w' => e = whyE y ∧ Below W'.heap.size W' w') : Calls Try.prog 58 #[.pointer (some ⟨E.R, 0, none⟩), .agg #[.int .i64 x.op, .int .i64 x.dst, .int .i64 x.src, .int .i64 x.off, .int .i64 x.imm]] W fun e w' => e = whyE y ∧ Below W.heap.size W w' := by
  have HA := Lib.hid ha
  have HS := Lib.hid hs
  have HX := Lib.hid (Yq.boxS_new W x 64)
  clear ha hs
  go_enter Try.func58, Try.ntmps58
  go_upto_region 1 with fail
  generalize W.alloc (.cells #[.int .i64 x.op, .int .i64 x.dst, .int .i64 x.src, .int .i64 x.off, .int .i64 x.imm] 64) = W1 at HX ⊢
  obtain ⟨c0, c1, c2, c3, c4⟩ := HX.out.cells
  go_wp2_with (first | (go_at_call 50; (with_reducible refine (HA.out _ HX.out.bel _).mono ?_); rintro e w2 ⟨rfl, hb⟩; have HX2 := Lib.hid (HX.out.call hb); clear hb HX c0 c1 c2 c3 c4; obtain ⟨c0, c1, c2, c3, c4⟩ := HX2.out.cells) | (go_at_call 65; (with_reducible refine (HS.out _ HX2.out.bel).mono ?_); rintro e w3 ⟨rfl, hb⟩; exact ⟨rfl, rfl, HX2.out.bel.trans (hb.mono HX2.out.bel.size)⟩))
def wordAt (a b c d : Int) (j : Nat) : Int := if j = 0 then a else if j = 1 then b else if j = 2 then c else d
theorem wordAt_get (a b c d : Int) (j : Nat) (hj : j < 4) : ([.int .i64 a, .int .i64 b, .int .i64 c, .int .i64 d] : List Value)[j]? = some (.int .i64 (wordAt a b c d j)) := by
  match j, hj with
  | 0, _ => rfl
  | 1, _ => rfl
  | 2, _ => rfl
  | 3, _ => rfl
set_option maxHeartbeats 2000000 in
theorem loadVal_ok (x : Y.In) (hE : EvOk E) (h : RunAt E S s W) (hd : 0 ≤ x.dst ∧ x.dst < 8) (k : Int) (g : Nat) (a b c d : Int) (j : Nat) (hj : j < 4) (hoff : x.off = (j : Int)) (ha : ∀ W', Below W.heap.size W W' → ∀ t, Calls Try.prog 50 #[.pointer (some ⟨E.R, 0, none⟩), .slice (some ⟨W'.heap.size, 0, none⟩) 1 1] (W'.alloc (.cells #[.int .i64 x.src] t)) fun e w' => e = .returned (.tuple #[]) ∧ Below W'.heap.size W' w') (hs : ∀ W', Below W.heap.size W W' → Calls Try.prog 65 #[.pointer (some ⟨E.R, 0, none⟩), .int .i64 x.src, .int .i64 x.off] W' fun e w' => e = .returned (.tuple #[.agg #[.int .i64 2, .int .i64 k, .pointer (some ⟨g, 0, none⟩)], .agg #[.int .i64 a, .int .i64 b, .int .i64 c, .int .i64 d]]) ∧ Below W'.heap.size W' w') : Calls Try.prog 58 #[.pointer (some ⟨E.R, 0, none⟩), .agg #[.int .i64 x.op, .int .i64 x.dst, .int .i64 x.src, .int .i64 x.off, .int .i64 x.imm]] W fun e w' => e = .returned (.tuple #[]) ∧ RunTo E S W (s.setR x.dst (.num (wordAt a b c d j))) w' := by
  have HA := Lib.hid ha
  have HS := Lib.hid hs
  have H := Lib.hid h
  have HD := Lib.hid hd
  have HO := Lib.hid hoff
  have hj0 : (0 : Int) ≤ (j : Int) := by omega
  have hj4 : (j : Int) < 4 := by omega
  have HX := Lib.hid (Yq.boxS_new W x 64)
  clear ha hs h hd hoff
  go_enter Try.func58, Try.ntmps58
  go_upto_region 1 with fail
  generalize W.alloc (.cells #[.int .i64 x.op, .int .i64 x.dst, .int .i64 x.src, .int .i64 x.off, .int .i64 x.imm] 64) = W1 at HX ⊢
  obtain ⟨c0, c1, c2, c3, c4⟩ := HX.out.cells
  go_upto_region 3 with (first | (go_at_call 50; (with_reducible refine (HA.out _ HX.out.bel _).mono ?_); rintro e w2 ⟨rfl, hb⟩; have HX2 := Lib.hid (HX.out.call hb); clear hb HX c0 c1 c2 c3 c4; obtain ⟨c0, c1, c2, c3, c4⟩ := HX2.out.cells) | (go_at_call 65; (with_reducible refine (HS.out _ HX2.out.bel).mono ?_); rintro e w3 ⟨rfl, hb⟩; have HX3 := Lib.hid (HX2.out.call hb); clear hb HX2 c0 c1 c2 c3 c4))
  have R5 : Hid (RowAt ((w3.alloc (.cells #[.int .i64 2, .int .i64 k, .pointer (some ⟨g, 0, none⟩)] 79)).alloc (.cells #[.int .i64 a, .int .i64 b, .int .i64 c, .int .i64 d] 60)) (w3.heap.size + 1) [.int .i64 a, .int .i64 b, .int .i64 c, .int .i64 d]) := Lib.hid (by
    have := rowAt_new (w3.alloc (.cells #[.int .i64 2, .int .i64 k, .pointer (some ⟨g, 0, none⟩)] 79)) [.int .i64 a, .int .i64 b, .int .i64 c, .int .i64 d] 60
    rwa [World.size_alloc] at this)
  have HB5 := Lib.hid ((below_new w3 (.cells #[.int .i64 2, .int .i64 k, .pointer (some ⟨g, 0, none⟩)] 79)).trans ((below_new _ (.cells #[.int .i64 a, .int .i64 b, .int .i64 c, .int .i64 d] 60)).mono (below_new w3 _).size))
  generalize World.alloc _ _ = w5 at R5 HB5 ⊢
  have HX5 := Lib.hid (HX3.out.call HB5.out)
  have HX6 := Lib.hid (HX5.out.call (drew_below _))
  have R6 := Lib.hid R5.out.drew
  obtain ⟨c0, c1, c2, c3, c4⟩ := HX6.out.cells
  have cw := R6.out.cell j _ (wordAt_get a b c d j hj)
  rw [HO.out] at c3
  have HL := Lib.hid (load_any hE (H.out.step HX6.out.bel) x.dst (wordAt a b c d j) HD.out)
  obtain ⟨n, hn⟩ : ∃ n, Hid (wordAt a b c d j = n) := ⟨_, Lib.hid rfl⟩
  rw [hn.out] at cw HL
  refine ws_region 7 (by kernel_rfl) ?_
  simp only [List.take_succ_cons, List.take_zero, List.drop_succ_cons, List.drop_zero]
  refine ws_take (.pointer (some ⟨E.R, 0, none⟩)) (by kernel_rfl) ?_ ?_
  · (go_simp)
  (try simp only [Act.put, List.setIfInBounds_toArray, List.set_cons_zero, List.set_cons_succ])
  refine ws_take (.pointer (some ⟨W.heap.size, 1, none⟩)) (by kernel_rfl) ?_ ?_
  · (go_simp)
  (try simp only [Act.put, List.setIfInBounds_toArray, List.set_cons_zero, List.set_cons_succ])
  refine ws_take (.int .i64 x.dst) (by kernel_rfl) ?_ ?_
  · (go_simp)
  (try simp only [Act.put, List.setIfInBounds_toArray, List.set_cons_zero, List.set_cons_succ])
  refine ws_take (.pointer (some ⟨W.heap.size, 3, none⟩)) (by kernel_rfl) ?_ ?_
  · (go_simp)
  (try simp only [Act.put, List.setIfInBounds_toArray, List.set_cons_zero, List.set_cons_succ])
  refine ws_take (.int .i64 (j : Int)) (by kernel_rfl) ?_ ?_
  · (go_simp)
  (try simp only [Act.put, List.setIfInBounds_toArray, List.set_cons_zero, List.set_cons_succ])
  refine ws_take (.pointer (some ⟨(w3.heap.size + 1), j, none⟩)) (by kernel_rfl) ?_ ?_
  · (go_simp)
  (try simp only [Act.put, List.setIfInBounds_toArray, List.set_cons_zero, List.set_cons_succ])
  refine ws_take (.int .i64 n) (by kernel_rfl) ?_ ?_
  · (go_simp)
  (try simp only [Act.put, List.setIfInBounds_toArray, List.set_cons_zero, List.set_cons_succ])
  refine ws_nil ?_
  clear c0 c1 c2 c3 c4 cw
  go_wp2_with (go_at_call 51; (with_reducible refine (HL.out).mono ?_); rintro e w6 ⟨rfl, hto⟩; have HT := Lib.hid hto; clear hto)
  go_end0
  exact ⟨rfl, by rw [hn.out]; exact RunTo.back HX6.out.bel HT.out⟩
end
end Go.Proofs.Ythngbakbiocadaa

/-
  Values stored; both by what the register has.
-/
namespace Go.Proofs.Ythngbakbiocadaa
set_option maxRecDepth 100000
open Go.ChangeShapes Go.WideShapes Go.ChangeAt Go.RowKit Go.Maps
open V
section
variable {E : Ev} {S : Nat → Prop} {s : V.St} {W : World}
set_option maxHeartbeats 2000000 in
theorem storeVal_unset (x : Y.In) (ha : ∀ W', Below W.heap.size W W' → ∀ t, Calls Try.prog 50 #[.pointer (some ⟨E.R, 0, none⟩), .slice (some ⟨W'.heap.size, 0, none⟩) 2 2] (W'.alloc (.cells #[.int .i64 x.dst, .int .i64 x.src] t)) fun e w' => e = whyE 3 ∧ Below W'.heap.size W' w') : Calls Try.prog 59 #[.pointer (some ⟨E.R, 0, none⟩), .agg #[.int .i64 x.op, .int .i64 x.dst, .int .i64 x.src, .int .i64 x.off, .int .i64 x.imm]] W fun e w' => e = whyE 3 ∧ Below W.heap.size W w' := by
  have HA := Lib.hid ha
  have HX := Lib.hid (Yq.boxS_new W x 64)
  clear ha
  go_enter Try.func59, Try.ntmps59
  go_upto_region 1 with fail
  generalize W.alloc (.cells #[.int .i64 x.op, .int .i64 x.dst, .int .i64 x.src, .int .i64 x.off, .int .i64 x.imm] 64) = W1 at HX ⊢
  obtain ⟨c0, c1, c2, c3, c4⟩ := HX.out.cells
  go_wp2_with (go_at_call 50; (with_reducible refine (HA.out _ HX.out.bel _).mono ?_); rintro e w2 ⟨rfl, hb⟩; exact ⟨rfl, rfl, HX.out.bel.trans (hb.mono HX.out.bel.size)⟩)
set_option maxHeartbeats 2000000 in
theorem storeVal_num (x : Y.In) {y : Nat} (ha : ∀ W', Below W.heap.size W W' → ∀ t, Calls Try.prog 50 #[.pointer (some ⟨E.R, 0, none⟩), .slice (some ⟨W'.heap.size, 0, none⟩) 2 2] (W'.alloc (.cells #[.int .i64 x.dst, .int .i64 x.src] t)) fun e w' => e = .returned (.tuple #[]) ∧ Below W'.heap.size W' w') (hn : ∀ W', Below W.heap.size W W' → Calls Try.prog 53 #[.pointer (some ⟨E.R, 0, none⟩), .int .i64 x.src] W' fun e w' => e = whyE y ∧ Below W'.heap.size W' w') : Calls Try.prog 59 #[.pointer (some ⟨E.R, 0, none⟩), .agg #[.int .i64 x.op, .int .i64 x.dst, .int .i64 x.src, .int .i64 x.off, .int .i64 x.imm]] W fun e w' => e = whyE y ∧ Below W.heap.size W w' := by
  have HA := Lib.hid ha
  have HN := Lib.hid hn
  have HX := Lib.hid (Yq.boxS_new W x 64)
  clear ha hn
  go_enter Try.func59, Try.ntmps59
  go_upto_region 1 with fail
  generalize W.alloc (.cells #[.int .i64 x.op, .int .i64 x.dst, .int .i64 x.src, .int .i64 x.off, .int .i64 x.imm] 64) = W1 at HX ⊢
  obtain ⟨c0, c1, c2, c3, c4⟩ := HX.out.cells
  go_wp2_with (first | (go_at_call 50; (with_reducible refine (HA.out _ HX.out.bel _).mono ?_); rintro e w2 ⟨rfl, hb⟩; have HX2 := Lib.hid (HX.out.call hb); clear hb HX c0 c1 c2 c3 c4; obtain ⟨c0, c1, c2, c3, c4⟩ := HX2.out.cells; have HX := HX2; clear HX2) | (go_at_call 53; (with_reducible refine (HN.out _ HX.out.bel).mono ?_); rintro e w2 ⟨rfl, hb⟩; exact ⟨rfl, rfl, HX.out.bel.trans (hb.mono HX.out.bel.size)⟩))
set_option maxHeartbeats 2000000 in
theorem storeVal_no (x : Y.In) {y : Nat} {n : Int} (ha : ∀ W', Below W.heap.size W W' → ∀ t, Calls Try.prog 50 #[.pointer (some ⟨E.R, 0, none⟩), .slice (some ⟨W'.heap.size, 0, none⟩) 2 2] (W'.alloc (.cells #[.int .i64 x.dst, .int .i64 x.src] t)) fun e w' => e = .returned (.tuple #[]) ∧ Below W'.heap.size W' w') (hn : ∀ W', Below W.heap.size W W' → Calls Try.prog 53 #[.pointer (some ⟨E.R, 0, none⟩), .int .i64 x.src] W' fun e w' => e = .returned (.int .i64 n) ∧ Below W'.heap.size W' w') (hs : ∀ W', Below W.heap.size W W' → Calls Try.prog 65 #[.pointer (some ⟨E.R, 0, none⟩), .int .i64 x.dst, .int .i64 x.off] W' fun e w' => e = whyE y ∧ Below W'.heap.size W' w') : Calls Try.prog 59 #[.pointer (some ⟨E.R, 0, none⟩), .agg #[.int .i64 x.op, .int .i64 x.dst, .int .i64 x.src, .int .i64 x.off, .int .i64 x.imm]] W fun e w' => e = whyE y ∧ Below W.heap.size W w' := by
  have HA := Lib.hid ha
  have HN := Lib.hid hn
  have HS := Lib.hid hs
  have HX := Lib.hid (Yq.boxS_new W x 64)
  clear ha hn hs
  go_enter Try.func59, Try.ntmps59
  go_upto_region 1 with fail
  generalize W.alloc (.cells #[.int .i64 x.op, .int .i64 x.dst, .int .i64 x.src, .int .i64 x.off, .int .i64 x.imm] 64) = W1 at HX ⊢
  obtain ⟨c0, c1, c2, c3, c4⟩ := HX.out.cells
  go_wp2_with (first | (go_at_call 50; (with_reducible refine (HA.out _ HX.out.bel _).mono ?_); rintro e w2 ⟨rfl, hb⟩; have HX2 := Lib.hid (HX.out.call hb); clear hb HX c0 c1 c2 c3 c4; obtain ⟨c0, c1, c2, c3, c4⟩ := HX2.out.cells; have HX := HX2; clear HX2) | (go_at_call 53; (with_reducible refine (HN.out _ HX.out.bel).mono ?_); rintro e w2 ⟨rfl, hb⟩; have HX2 := Lib.hid (HX.out.call hb); clear hb HX c0 c1 c2 c3 c4; obtain ⟨c0, c1, c2, c3, c4⟩ := HX2.out.cells; have HX := HX2; clear HX2) | (go_at_call 65; (with_reducible refine (HS.out _ HX.out.bel).mono ?_); rintro e w3 ⟨rfl, hb⟩; exact ⟨rfl, rfl, HX.out.bel.trans (hb.mono HX.out.bel.size)⟩))
set_option maxHeartbeats 2000000 in
theorem storeVal_ok (x : Y.In) {u : V.St} {n : Int} (k : Int) (g : Nat) (a b c d : Int) (ha : ∀ W', Below W.heap.size W W' → ∀ t, Calls Try.prog 50 #[.pointer (some ⟨E.R, 0, none⟩), .slice (some ⟨W'.heap.size, 0, none⟩) 2 2] (W'.alloc (.cells #[.int .i64 x.dst, .int .i64 x.src] t)) fun e w' => e = .returned (.tuple #[]) ∧ Below W'.heap.size W' w') (hn : ∀ W', Below W.heap.size W W' → Calls Try.prog 53 #[.pointer (some ⟨E.R, 0, none⟩), .int .i64 x.src] W' fun e w' => e = .returned (.int .i64 n) ∧ Below W'.heap.size W' w') (hs : ∀ W', Below W.heap.size W W' → Calls Try.prog 65 #[.pointer (some ⟨E.R, 0, none⟩), .int .i64 x.dst, .int .i64 x.off] W' fun e w' => e = .returned (.tuple #[.agg #[.int .i64 2, .int .i64 k, .pointer (some ⟨g, 0, none⟩)], .agg #[.int .i64 a, .int .i64 b, .int .i64 c, .int .i64 d]]) ∧ Below W'.heap.size W' w') (hw : ∀ W', Below W.heap.size W W' → Calls Try.prog 66 #[.pointer (some ⟨g, 0, none⟩), .int .i64 k, .int .i64 x.off, .int .i64 n] W' fun e w' => (∃ v, e = .returned v) ∧ RunTo E S W' u w') : Calls Try.prog 59 #[.pointer (some ⟨E.R, 0, none⟩), .agg #[.int .i64 x.op, .int .i64 x.dst, .int .i64 x.src, .int .i64 x.off, .int .i64 x.imm]] W fun e w' => e = .returned (.tuple #[]) ∧ RunTo E S W u w' := by
  have HA := Lib.hid ha
  have HN := Lib.hid hn
  have HS := Lib.hid hs
  have HW := Lib.hid hw
  have HX := Lib.hid (Yq.boxS_new W x 64)
  clear ha hn hs hw
  go_enter Try.func59, Try.ntmps59
  go_upto_region 1 with fail
  generalize W.alloc (.cells #[.int .i64 x.op, .int .i64 x.dst, .int .i64 x.src, .int .i64 x.off, .int .i64 x.imm] 64) = W1 at HX ⊢
  obtain ⟨c0, c1, c2, c3, c4⟩ := HX.out.cells
  go_upto_region 4 with (first | (go_at_call 50; (with_reducible refine (HA.out _ HX.out.bel _).mono ?_); rintro e w2 ⟨rfl, hb⟩; have HX2 := Lib.hid (HX.out.call hb); clear hb HX c0 c1 c2 c3 c4; obtain ⟨c0, c1, c2, c3, c4⟩ := HX2.out.cells; have HX := HX2; clear HX2) | (go_at_call 53; (with_reducible refine (HN.out _ HX.out.bel).mono ?_); rintro e w2 ⟨rfl, hb⟩; have HX2 := Lib.hid (HX.out.call hb); clear hb HX c0 c1 c2 c3 c4; obtain ⟨c0, c1, c2, c3, c4⟩ := HX2.out.cells; have HX := HX2; clear HX2) | (go_at_call 65; (with_reducible refine (HS.out _ HX.out.bel).mono ?_); rintro e w3 ⟨rfl, hb⟩; have HX3 := Lib.hid (HX.out.call hb); clear hb HX c0 c1 c2 c3 c4))
  have R5 := Lib.hid ((rowAt_new w3 [.int .i64 2, .int .i64 k, .pointer (some ⟨g, 0, none⟩)] 79).alloc (.cells #[.int .i64 a, .int .i64 b, .int .i64 c, .int .i64 d] 60))
  have HB5 := Lib.hid ((below_new w3 (.cells #[.int .i64 2, .int .i64 k, .pointer (some ⟨g, 0, none⟩)] 79)).trans ((below_new _ (.cells #[.int .i64 a, .int .i64 b, .int .i64 c, .int .i64 d] 60)).mono (below_new w3 _).size))
  generalize World.alloc _ _ = w5 at R5 HB5 ⊢
  have HX5 := Lib.hid (HX3.out.call HB5.out)
  obtain ⟨c0, c1, c2, c3, c4⟩ := HX5.out.cells
  have d1 := R5.out.cell 1 _ rfl
  have d2 := R5.out.cell 2 _ rfl
  go_wp2_with (go_at_call 66; (with_reducible refine (HW.out _ HX5.out.bel).mono ?_); rintro e w6 ⟨⟨v, rfl⟩, hto⟩; have HT := Lib.hid hto; clear hto)
  go_end0
  exact ⟨rfl, RunTo.back HX5.out.bel HT.out⟩
theorem en_at (e : Z.En) (j : Nat) (hj : j < 4) : V.En.at e (j : Int) = wordAt e.a e.b e.c e.d j := by
  match j, hj with
  | 0, _ => rfl
  | 1, _ => rfl
  | 2, _ => rfl
  | 3, _ => rfl
theorem wr_flt {e : Ending} {w' : World} {y : Nat} (h : RunAt E S s W) (hh : e = whyE y ∧ Below W.heap.size W w') : Wr E S W (.flt y s) e w' := ⟨hh.1, RunTo.self h hh.2⟩
theorem loadVal_any (hE : EvOk E) (h : RunAt E S s W) (x : Y.In) (hx : Y.Bd x) : Calls Try.prog 58 #[.pointer (some ⟨E.R, 0, none⟩), .agg #[.int .i64 x.op, .int .i64 x.dst, .int .i64 x.src, .int .i64 x.off, .int .i64 x.imm]] W (Wr E S W (ldval (s.r x.src) x.dst x.off s)) := by
  have hd : 0 ≤ x.dst ∧ x.dst < 8 := ⟨hx.dst.1, by have := hx.dst.2; omega⟩
  have hs : 0 ≤ x.src ∧ x.src < 8 := ⟨hx.src.1, by have := hx.src.2; omega⟩
  cases hc : s.r x.src with
  | no => exact (loadVal_unset x (fun W' hb t => askSet1_no (h.step hb) x.src hs (by rw [hc]; rfl) t)).mono fun e w' hh => wr_flt h hh
  | num n => exact (loadVal_no x (fun W' hb t => askSet1_ok (h.step hb) x.src hs (by rw [hc]; rfl) t) (fun W' hb => slot_9 (h.step hb) x.src x.off hs (by rw [hc]; rfl))).mono fun e w' hh => wr_flt h hh
  | ref k m =>
    obtain ⟨d, hdm⟩ := ds_of h hc
    have hS := fun W' (hb : Below W.heap.size W W') => slot_ref (h.step hb) x.src x.off hs hc hdm
    have hA := fun W' (hb : Below W.heap.size W W') t => askSet1_ok (h.step hb) x.src hs (by rw [hc]; rfl) t
    unfold ldval
    simp only [hdm, Option.bind_some]
    cases ho : Z.getI k d.l with
    | none =>
      rw [ho] at hS
      exact (loadVal_no x hA hS).mono fun e w' hh => wr_flt h hh
    | some e =>
      rw [ho] at hS
      unfold SlotE at hS
      by_cases hi : x.off < 0 ∨ 4 ≤ x.off
      · simp only [inb_not hi, Bool.false_eq_true, if_false] at hS
        simp only [hi, if_true]
        exact (loadVal_no x hA hS).mono fun e w' hh => wr_flt h hh
      · obtain ⟨j, hj⟩ : ∃ j : Nat, x.off = (j : Int) := ⟨x.off.toNat, by omega⟩
        simp only [inb_of (show 0 ≤ x.off ∧ x.off < 4 by omega), if_true] at hS
        simp only [hi, if_false]
        have hw := en_at e j (by omega)
        rw [← hj] at hw
        rw [hw]
        exact (loadVal_ok x hE h hd k _ e.a e.b e.c e.d j (by omega) hj hA hS).mono fun e w' hh => hh
theorem setD_is {m : Nat} {d : Dt} (h : s.ds[m]? = some d) (l : List Z.En) : s.setD m l = { s with ds := s.ds.set m ⟨d.lru, d.room, l⟩ } := by unfold V.St.setD; rw [h]
theorem oks_set {m : Nat} {d : Dt} (hok : ∀ d ∈ s.ds, d.ok) (h : Dt.ok d) : ∀ x ∈ s.ds.set m d, x.ok := fun x hx => by
  rcases List.mem_or_eq_of_mem_set hx with e | e
  · exact hok x e
  · rw [e]; exact h
theorem dt_len {d : Dt} (h : d.ok) {l : List Z.En} (hl : l.length ≤ d.l.length) : Dt.ok ⟨d.lru, d.room, l⟩ := ⟨Nat.le_trans hl h.1, h.2⟩
theorem storeVal_any (hE : EvOk E) (h : RunAt E S s W) (x : Y.In) (hx : Y.Bd x) : Calls Try.prog 59 #[.pointer (some ⟨E.R, 0, none⟩), .agg #[.int .i64 x.op, .int .i64 x.dst, .int .i64 x.src, .int .i64 x.off, .int .i64 x.imm]] W (Wr E S W (stval (s.r x.dst) (s.r x.src) x.off s)) := by
  have hd : 0 ≤ x.dst ∧ x.dst < 8 := ⟨hx.dst.1, by have := hx.dst.2; omega⟩
  have hs : 0 ≤ x.src ∧ x.src < 8 := ⟨hx.src.1, by have := hx.src.2; omega⟩
  unfold stval
  cases hu : (s.r x.dst).un || (s.r x.src).un with
  | true =>
    rw [if_pos rfl]
    exact (storeVal_unset x (fun W' hb t => askSet2_no (h.step hb) x.dst x.src hd hs hu t)).mono fun e w' hh => wr_flt h hh
  | false =>
    rw [if_neg (by decide)]
    have hu2 := hu
    rw [Bool.or_eq_false_iff] at hu2
    have hA := fun W' (hb : Below W.heap.size W W') t => askSet2_ok (h.step hb) x.dst x.src hd hs hu2.1 hu2.2 t
    cases hn : (s.r x.src).nm with
    | error y => exact (storeVal_num x hA (fun W' hb => number_no (h.step hb) x.src hs hn)).mono fun e w' hh => wr_flt h hh
    | ok n =>
      have hN := fun W' (hb : Below W.heap.size W W') => number_ok (h.step hb) x.src hs hn
      cases hc : s.r x.dst with
      | no => rw [hc] at hu2; cases hu2.1
      | num q => exact (storeVal_no x hA hN (fun W' hb => slot_9 (h.step hb) x.dst x.off hd (by rw [hc]; rfl))).mono fun e w' hh => wr_flt h hh
      | ref k m =>
        obtain ⟨d, hdm⟩ := ds_of h hc
        have hS := fun W' (hb : Below W.heap.size W W') => slot_ref (h.step hb) x.dst x.off hd hc hdm
        have hok := h.wf.oks d (List.mem_of_getElem? hdm)
        simp only [hdm]
        cases ho : Z.getI k d.l with
        | none =>
          rw [ho] at hS
          exact (storeVal_no x hA hN hS).mono fun e w' hh => wr_flt h hh
        | some e =>
          rw [ho] at hS
          unfold SlotE at hS
          by_cases hi : x.off < 0 ∨ 4 ≤ x.off
          · simp only [inb_not hi, Bool.false_eq_true, if_false] at hS
            simp only [hi, if_true]
            exact (storeVal_no x hA hN hS).mono fun e w' hh => wr_flt h hh
          · obtain ⟨j, hj⟩ : ∃ j : Nat, x.off = (j : Int) := ⟨x.off.toNat, by omega⟩
            simp only [inb_of (show 0 ≤ x.off ∧ x.off < 4 by omega), if_true] at hS
            simp only [hi, if_false]
            rw [setD_is hdm]
            refine (storeVal_ok x k _ e.a e.b e.c e.d hA hN hS (fun W' hb => ?_)).mono fun e w' hh => hh
            have hr := h.step hb
            have hw := st_word hr.st hdm hok k n j (by omega)
            rw [← hj] at hw
            refine hw.mono fun e w' hh => ⟨⟨_, hh.1⟩, ?_⟩
            rw [hj, Int.toNat_natCast]
            exact hr.maps hE hh.2 (by rw [List.length_set]) (oks_set h.wf.oks (dt_len hok (Nat.le_of_eq (wordI_len _ _ _ _))))
end
end Go.Proofs.Ythngbakbiocadaa
