/-
  The document's own Bytes.
-/
import Derived.Test.YteobdjgodljjmaaYlists
import Derived.Test.YteobdjgodljjmaaYsigned
namespace Go.Proofs.Yteobdjgodljjmaa
open Go.RowKit

theorem bytes_more (xs : List Y.In) (k : Nat) (x : Y.In) (h : xs[k]? = some x) : strOf (Y.bytes (xs.take (k + 1))) = strOf (Y.bytes (xs.take k)) ++ strOf (Y.low 1 x.op) ++ strOf (Y.low 1 (x.dst * 16 + x.src)) ++ strOf (Y.low 2 x.off) ++ strOf (Y.low 4 x.imm) := by
  obtain ⟨hk, he⟩ := List.getElem?_eq_some_iff.1 h
  rw [List.take_succ_eq_append_getElem hk, he, Y.bytes_app, strOf_app, show Y.bytes [x] = Y.bytes1 x by unfold Y.bytes; simp]
  unfold Y.bytes1
  rw [strOf_app, strOf_app, strOf_app, ← ByteArray.append_assoc, ← ByteArray.append_assoc, ← ByteArray.append_assoc]
theorem add_run (a b : ByteArray) (w : World) (h : a.size + b.size ≤ 9223372036854775807) : (binOp .add 9 (.string a) (.string b)).run Try.prog w = .ok (.string (a ++ b)) w := by
  have hr := run_string_add_sum (P := Try.prog) (w := w) a b h
  go_simp
theorem run_bin {ρ : Operand → Value} {op : Oper} {t u : TypeId} {x y : Operand} {A B r : Value} {w : World} (ho : op.op = .binOp .add t x y u) (hx : ρ x = A) (hy : ρ y = B) (hb : (binOp .add t A B).run Try.prog w = .ok r w) :
    (execOp ρ op).run Try.prog w = .ok (.value r) w :=
  run_held ho hx hy rfl hb
theorem at_cells {w : World} {b o : Nat} {x : Y.In} (h : w.rangeAt b o (inL x)) : w.cell? ⟨b, o, none⟩ = some (.int .i64 x.op) ∧ w.cell? ⟨b, o + 1, none⟩ = some (.int .i64 x.dst) ∧ w.cell? ⟨b, o + 2, none⟩ = some (.int .i64 x.src) ∧ w.cell? ⟨b, o + 3, none⟩ = some (.int .i64 x.off) ∧ w.cell? ⟨b, o + 4, none⟩ = some (.int .i64 x.imm) :=
  ⟨h 0 _ rfl, h 1 _ rfl, h 2 _ rfl, h 3 _ rfl, h 4 _ rfl⟩
set_option maxRecDepth 100000 in
set_option maxHeartbeats 4000000 in
theorem rbytes_any (A : Option Addr) (n c : Nat) (xs : List Y.In) (w : World) (h : InsAt w A n xs) (hn : n ≤ 1000) (hbd : ∀ x ∈ xs, Y.Bd x) :
    Calls Try.prog 13 #[.slice A n c] w fun e w' => e = .returned (.string (strOf (Y.bytes xs))) ∧ Below w.heap.size w w' := by
  have S0 : Hid (InsS w A n xs w) := Lib.hid ⟨h, Below.refl _ _⟩
  have HL := Lib.hid h.len
  have HBD := Lib.hid hbd
  clear h hbd
  go_enter Try.func13, Try.ntmps13
  go_wp2
  go_loopw [3, 4] (fun s i wr => ∃ (k : Nat) (t : ByteArray), k ≤ n ∧ i = .int .i64 (k : Int) ∧ s = .string t ∧ Hid (t = strOf (Y.bytes (xs.take k))) ∧ Hid (InsS w A n xs wr)) (fun _ i _ => n - (intOf i).toNat)
  case atStart => exact ⟨0, _, Nat.zero_le _, rfl, rfl, Lib.hid rfl, S0⟩
  case round =>
    clear S0
    obtain ⟨k, s, hk, rfl, rfl, HT, S⟩ := hrel
    by_cases hlt : k < n
    · obtain ⟨b, off, x, hA, hb, hx, hc⟩ := S.out.ins.get k hlt
      subst hA
      have HX := Lib.hid hx
      have HB := Lib.hid (HBD.out x (List.mem_of_getElem? hx))
      clear hx hc hb
      have HC : Hid (∀ w', InsS w (some ⟨b, off, none⟩) n xs w' → _) := Lib.hid (fun w' (hS : InsS w (some ⟨b, off, none⟩) n xs w') => at_cells (x := x) (w := w') (b := b) (o := off + k * 5) (by
        obtain ⟨b', o', x', e1, _, e3, e4⟩ := hS.ins.get k hlt
        injection e1 with e1; injection e1 with e1 e2
        rw [HX.out] at e3; injection e3 with e3
        subst e1 e2 e3
        exact e4))
      have hk0 : (0 : Int) ≤ (k : Int) := by omega
      have hk1 : (k : Int) < (n : Int) := by omega
      have H1 := Lib.hid (fun w => low_any x.op 1 w (by omega))
      have H2 := Lib.hid (fun w => low_any (x.dst * 16 + x.src) 1 w (by omega))
      have H3 := Lib.hid (fun w => low_any x.off 2 w (by omega))
      have H4 := Lib.hid (fun w => low_any x.imm 4 w (by omega))
      have HM := Lib.hid (bytes_more xs k x HX.out)
      have hsz : s.size = 8 * k := by rw [HT.out, strOf_size, Y.bytes_length, List.length_take, HL.out]; omega
      have z1 := strOf_size (Y.low 1 x.op); have z2 := strOf_size (Y.low 1 (x.dst * 16 + x.src)); have z3 := strOf_size (Y.low 2 x.off); have z4 := strOf_size (Y.low 4 x.imm)
      rw [Y.low_length] at z1 z2 z3 z4
      rw [← HT.out] at HM
      generalize strOf (Y.low 1 x.op) = a1 at H1 HM z1
      generalize strOf (Y.low 1 (x.dst * 16 + x.src)) = a2 at H2 HM z2
      generalize strOf (Y.low 2 x.off) = a3 at H3 HM z3
      generalize strOf (Y.low 4 x.imm) = a4 at H4 HM z4
      have K1 : Hid (∀ w, (binOp .add 9 (.string s) (.string a1)).run Try.prog w = .ok (.string (s ++ a1)) w) := Lib.hid (fun w => add_run s a1 w (by omega))
      have K2 : Hid (∀ w, (binOp .add 9 (.string (s ++ a1)) (.string a2)).run Try.prog w = .ok (.string (s ++ a1 ++ a2)) w) := Lib.hid (fun w => add_run _ a2 w (by rw [ByteArray.size_append]; omega))
      have K3 : Hid (∀ w, (binOp .add 9 (.string (s ++ a1 ++ a2)) (.string a3)).run Try.prog w = .ok (.string (s ++ a1 ++ a2 ++ a3)) w) := Lib.hid (fun w => add_run _ a3 w (by rw [ByteArray.size_append, ByteArray.size_append]; omega))
      have K4 : Hid (∀ w, (binOp .add 9 (.string (s ++ a1 ++ a2 ++ a3)) (.string a4)).run Try.prog w = .ok (.string (s ++ a1 ++ a2 ++ a3 ++ a4)) w) := Lib.hid (fun w => add_run _ a4 w (by rw [ByteArray.size_append, ByteArray.size_append, ByteArray.size_append]; omega))
      obtain ⟨⟨_, _⟩, ⟨d0, d1⟩, ⟨r0, r1⟩, _, _⟩ := HB.out
      have HW1 : IntKind.i64.wrap (x.dst * 16) = x.dst * 16 := IntWalk.i64_in _ (by omega)
      have HW2 : IntKind.i64.wrap (x.dst * 16 + x.src) = x.dst * 16 + x.src := IntWalk.i64_in _ (by omega)
      clear z1 z2 z3 z4 hsz
      go_upto_region 5 with fail
      refine wq_region (C := InsS w (some ⟨b, off, none⟩) n xs) (by kernel_rfl) (S.out.call (Below.refl _ _).drew) ?_
      refine wq_take (.string s) (by kernel_rfl) ?_ ?_
      · (intro w' hS; go_simp)
      (try simp only [Act.put, List.setIfInBounds_toArray, List.set_cons_zero, List.set_cons_succ])
      refine wq_take (.slice (some ⟨b, off, none⟩) n c) (by kernel_rfl) ?_ ?_
      · (intro w' hS; go_simp)
      (try simp only [Act.put, List.setIfInBounds_toArray, List.set_cons_zero, List.set_cons_succ])
      refine wq_take (.int .i64 (k : Int)) (by kernel_rfl) ?_ ?_
      · (intro w' hS; go_simp)
      (try simp only [Act.put, List.setIfInBounds_toArray, List.set_cons_zero, List.set_cons_succ])
      refine wq_take (.pointer (some ⟨b, off + k * 5, none⟩)) (by kernel_rfl) ?_ ?_
      · (intro w' hS; go_simp)
      (try simp only [Act.put, List.setIfInBounds_toArray, List.set_cons_zero, List.set_cons_succ])
      refine wq_take (.pointer (some ⟨b, off + k * 5, none⟩)) (by kernel_rfl) ?_ ?_
      · (intro w' hS; go_simp)
      (try simp only [Act.put, List.setIfInBounds_toArray, List.set_cons_zero, List.set_cons_succ])
      refine wq_take (.int .i64 x.op) (by kernel_rfl) ?_ ?_
      · (intro w' hS; obtain ⟨c0, c1, c2, c3, c4⟩ := HC.out w' hS; go_simp)
      (try simp only [Act.put, List.setIfInBounds_toArray, List.set_cons_zero, List.set_cons_succ])
      refine wq_call 26 #[.int .i64 x.op, .int .i64 1] (.string a1) (by kernel_rfl) (fun _ => by go_simp <;> rfl) (fun W hC => (H1.out W).mono fun _ _ h => ⟨h.1, hC.call h.2⟩) ?_
      (try simp only [Act.put, List.setIfInBounds_toArray, List.set_cons_zero, List.set_cons_succ])
      refine wq_take (.string (s ++ a1)) (by kernel_rfl) ?_ ?_
      · (intro w' hS; exact run_bin rfl rfl rfl (K1.out w'))
      (try simp only [Act.put, List.setIfInBounds_toArray, List.set_cons_zero, List.set_cons_succ])
      refine wq_take (.slice (some ⟨b, off, none⟩) n c) (by kernel_rfl) ?_ ?_
      · (intro w' hS; go_simp)
      (try simp only [Act.put, List.setIfInBounds_toArray, List.set_cons_zero, List.set_cons_succ])
      refine wq_take (.int .i64 (k : Int)) (by kernel_rfl) ?_ ?_
      · (intro w' hS; go_simp)
      (try simp only [Act.put, List.setIfInBounds_toArray, List.set_cons_zero, List.set_cons_succ])
      refine wq_take (.pointer (some ⟨b, off + k * 5, none⟩)) (by kernel_rfl) ?_ ?_
      · (intro w' hS; go_simp)
      (try simp only [Act.put, List.setIfInBounds_toArray, List.set_cons_zero, List.set_cons_succ])
      refine wq_take (.pointer (some ⟨b, off + k * 5 + 1, none⟩)) (by kernel_rfl) ?_ ?_
      · (intro w' hS; go_simp)
      (try simp only [Act.put, List.setIfInBounds_toArray, List.set_cons_zero, List.set_cons_succ])
      refine wq_take (.int .i64 x.dst) (by kernel_rfl) ?_ ?_
      · (intro w' hS; obtain ⟨c0, c1, c2, c3, c4⟩ := HC.out w' hS; go_simp)
      (try simp only [Act.put, List.setIfInBounds_toArray, List.set_cons_zero, List.set_cons_succ])
      refine wq_take (.int .i64 (x.dst * 16)) (by kernel_rfl) ?_ ?_
      · (intro w' hS; have := HW1; go_simp)
      (try simp only [Act.put, List.setIfInBounds_toArray, List.set_cons_zero, List.set_cons_succ])
      refine wq_take (.slice (some ⟨b, off, none⟩) n c) (by kernel_rfl) ?_ ?_
      · (intro w' hS; go_simp)
      (try simp only [Act.put, List.setIfInBounds_toArray, List.set_cons_zero, List.set_cons_succ])
      refine wq_take (.int .i64 (k : Int)) (by kernel_rfl) ?_ ?_
      · (intro w' hS; go_simp)
      (try simp only [Act.put, List.setIfInBounds_toArray, List.set_cons_zero, List.set_cons_succ])
      refine wq_take (.pointer (some ⟨b, off + k * 5, none⟩)) (by kernel_rfl) ?_ ?_
      · (intro w' hS; go_simp)
      (try simp only [Act.put, List.setIfInBounds_toArray, List.set_cons_zero, List.set_cons_succ])
      refine wq_take (.pointer (some ⟨b, off + k * 5 + 2, none⟩)) (by kernel_rfl) ?_ ?_
      · (intro w' hS; go_simp)
      (try simp only [Act.put, List.setIfInBounds_toArray, List.set_cons_zero, List.set_cons_succ])
      refine wq_take (.int .i64 x.src) (by kernel_rfl) ?_ ?_
      · (intro w' hS; obtain ⟨c0, c1, c2, c3, c4⟩ := HC.out w' hS; go_simp)
      (try simp only [Act.put, List.setIfInBounds_toArray, List.set_cons_zero, List.set_cons_succ])
      refine wq_take (.int .i64 (x.dst * 16 + x.src)) (by kernel_rfl) ?_ ?_
      · (intro w' hS; have := HW2; go_simp)
      (try simp only [Act.put, List.setIfInBounds_toArray, List.set_cons_zero, List.set_cons_succ])
      refine wq_call 26 #[.int .i64 (x.dst * 16 + x.src), .int .i64 1] (.string a2) (by kernel_rfl) (fun _ => by go_simp <;> rfl) (fun W hC => (H2.out W).mono fun _ _ h => ⟨h.1, hC.call h.2⟩) ?_
      (try simp only [Act.put, List.setIfInBounds_toArray, List.set_cons_zero, List.set_cons_succ])
      refine wq_take (.string (s ++ a1 ++ a2)) (by kernel_rfl) ?_ ?_
      · (intro w' hS; exact run_bin rfl rfl rfl (K2.out w'))
      (try simp only [Act.put, List.setIfInBounds_toArray, List.set_cons_zero, List.set_cons_succ])
      refine wq_take (.slice (some ⟨b, off, none⟩) n c) (by kernel_rfl) ?_ ?_
      · (intro w' hS; go_simp)
      (try simp only [Act.put, List.setIfInBounds_toArray, List.set_cons_zero, List.set_cons_succ])
      refine wq_take (.int .i64 (k : Int)) (by kernel_rfl) ?_ ?_
      · (intro w' hS; go_simp)
      (try simp only [Act.put, List.setIfInBounds_toArray, List.set_cons_zero, List.set_cons_succ])
      refine wq_take (.pointer (some ⟨b, off + k * 5, none⟩)) (by kernel_rfl) ?_ ?_
      · (intro w' hS; go_simp)
      (try simp only [Act.put, List.setIfInBounds_toArray, List.set_cons_zero, List.set_cons_succ])
      refine wq_take (.pointer (some ⟨b, off + k * 5 + 3, none⟩)) (by kernel_rfl) ?_ ?_
      · (intro w' hS; go_simp)
      (try simp only [Act.put, List.setIfInBounds_toArray, List.set_cons_zero, List.set_cons_succ])
      refine wq_take (.int .i64 x.off) (by kernel_rfl) ?_ ?_
      · (intro w' hS; obtain ⟨c0, c1, c2, c3, c4⟩ := HC.out w' hS; go_simp)
      (try simp only [Act.put, List.setIfInBounds_toArray, List.set_cons_zero, List.set_cons_succ])
      refine wq_call 26 #[.int .i64 x.off, .int .i64 2] (.string a3) (by kernel_rfl) (fun _ => by go_simp <;> rfl) (fun W hC => (H3.out W).mono fun _ _ h => ⟨h.1, hC.call h.2⟩) ?_
      (try simp only [Act.put, List.setIfInBounds_toArray, List.set_cons_zero, List.set_cons_succ])
      refine wq_take (.string (s ++ a1 ++ a2 ++ a3)) (by kernel_rfl) ?_ ?_
      · (intro w' hS; exact run_bin rfl rfl rfl (K3.out w'))
      (try simp only [Act.put, List.setIfInBounds_toArray, List.set_cons_zero, List.set_cons_succ])
      refine wq_take (.slice (some ⟨b, off, none⟩) n c) (by kernel_rfl) ?_ ?_
      · (intro w' hS; go_simp)
      (try simp only [Act.put, List.setIfInBounds_toArray, List.set_cons_zero, List.set_cons_succ])
      refine wq_take (.int .i64 (k : Int)) (by kernel_rfl) ?_ ?_
      · (intro w' hS; go_simp)
      (try simp only [Act.put, List.setIfInBounds_toArray, List.set_cons_zero, List.set_cons_succ])
      refine wq_take (.pointer (some ⟨b, off + k * 5, none⟩)) (by kernel_rfl) ?_ ?_
      · (intro w' hS; go_simp)
      (try simp only [Act.put, List.setIfInBounds_toArray, List.set_cons_zero, List.set_cons_succ])
      refine wq_take (.pointer (some ⟨b, off + k * 5 + 4, none⟩)) (by kernel_rfl) ?_ ?_
      · (intro w' hS; go_simp)
      (try simp only [Act.put, List.setIfInBounds_toArray, List.set_cons_zero, List.set_cons_succ])
      refine wq_take (.int .i64 x.imm) (by kernel_rfl) ?_ ?_
      · (intro w' hS; obtain ⟨c0, c1, c2, c3, c4⟩ := HC.out w' hS; go_simp)
      (try simp only [Act.put, List.setIfInBounds_toArray, List.set_cons_zero, List.set_cons_succ])
      refine wq_call 26 #[.int .i64 x.imm, .int .i64 4] (.string a4) (by kernel_rfl) (fun _ => by go_simp <;> rfl) (fun W hC => (H4.out W).mono fun _ _ h => ⟨h.1, hC.call h.2⟩) ?_
      (try simp only [Act.put, List.setIfInBounds_toArray, List.set_cons_zero, List.set_cons_succ])
      refine wq_take (.string (s ++ a1 ++ a2 ++ a3 ++ a4)) (by kernel_rfl) ?_ ?_
      · (intro w' hS; exact run_bin rfl rfl rfl (K4.out w'))
      (try simp only [Act.put, List.setIfInBounds_toArray, List.set_cons_zero, List.set_cons_succ])
      refine wq_take (.string (s ++ a1 ++ a2 ++ a3 ++ a4)) (by kernel_rfl) ?_ ?_
      · (intro w' hS; go_simp)
      (try simp only [Act.put, List.setIfInBounds_toArray, List.set_cons_zero, List.set_cons_succ])
      refine wq_nil ?_
      clear S
      intro w2 S2
      have S := Lib.hid S2
      clear S2 HW1 HW2
      go_wp2
      go_roundw
      case rel => exact ⟨k + 1, _, by omega, by go_num, rfl, Lib.hid HM.out.symm, S⟩
      case measure => (simp [intOf] <;> omega)
    · obtain rfl : k = n := by omega
      have e : xs.take k = xs := List.take_of_length_le (by rw [HL.out]; exact Nat.le_refl _)
      rw [e] at HT
      clear e hlt
      go_wp2
      go_ret
      exact ⟨ret_str HT.out, S.out.bel⟩
end Go.Proofs.Yteobdjgodljjmaa
