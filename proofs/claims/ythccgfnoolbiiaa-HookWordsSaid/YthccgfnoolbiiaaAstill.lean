/-
  A region whose head only reads, or calls what leaves the world as it is, and whose tail is forced: one line an operation.
-/
import Derived.Test.YthccgfnoolbiiaaAbase
import Derived.StillTail
namespace Go.Proofs.Ythccgfnoolbiiaa
open Go.RowKit

structure Ws (ops : Array Oper) (w : World) (Q : Act → Prop) (l : List Oper) (a : Act) : Prop where
  open_ : wpStill Try.prog ops w Q l a
theorem ws_region {id : Nat} {Q : Exit → Act → World → Prop} {a : Act} {w : World} {l : List Oper} (n : Nat) (hB : Region.lexTailB .any l.toArray n = true)
    (h : Ws l.toArray w.drew (fun a' => wpList Try.prog l.toArray Q (l.drop n) a' w.drew) (l.take n) a) : (Code.region id l.toArray true).wp Try.prog Q a w :=
  wp_region_still_tail n (by kernel_rfl) hB h.open_
section
variable {ops : Array Oper} {rest : List Oper} {op : Oper} {a : Act} {Q : Act → Prop} {w : World}
theorem ws_nil (h : Q a) : Ws ops w Q [] a := ⟨wpStill_nil h⟩
theorem ws_pass (hw : Region.wanted op (yielded ops a.tmps) = false) (h : Ws ops w Q rest (a.put op.dst undef)) : Ws ops w Q (op :: rest) a := ⟨by
  unfold wpStill
  rw [hw]
  exact h.open_⟩
theorem ws_take (v : Value) (hw : Region.wanted op (yielded ops a.tmps) = true) (hrun : (execOp a.eval op).run Try.prog w = .ok (.value v) w)
    (h : Ws ops w Q rest (a.put op.dst v)) : Ws ops w Q (op :: rest) a := ⟨by
  unfold wpStill
  rw [hw, if_pos rfl]
  unfold Oper.still
  rw [hrun]
  exact ⟨rfl, h.open_⟩⟩
theorem ws_call (f : FuncId) (args : Array Value) (v : Value) (hw : Region.wanted op (yielded ops a.tmps) = true) (hrun : (execOp a.eval op).run Try.prog w = .ok (.enter f args) w)
    (hcall : Calls Try.prog f args w fun e w' => e = .returned v ∧ w = w') (h : Ws ops w Q rest (a.put op.dst v)) : Ws ops w Q (op :: rest) a := ⟨by
  unfold wpStill
  rw [hw, if_pos rfl]
  unfold Oper.still
  rw [hrun]
  exact ⟨rfl, v, hcall.mono fun e w' h => ⟨h.1, h.2.symm⟩, h.open_⟩⟩
theorem ws_at {t : TypeId} {n b o : Nat} {vs : List Value} (ht : RowT t n) (hl : vs.length = n) (x : Operand) (ho : op.op = .load t x) (hx : a.eval x = .pointer (some ⟨b, o, none⟩)) (hw : Region.wanted op (yielded ops a.tmps) = true)
    (hC : w.rangeAt b o vs) (h : Ws ops w Q rest (a.put op.dst (.agg vs.toArray))) : Ws ops w Q (op :: rest) a := by
  refine ws_take (.agg vs.toArray) hw ?_ h
  obtain ⟨d, hd, hr⟩ := ht.row
  unfold execOp
  have := run_loadVar_mid (P := Try.prog) w b o t vs d hC hd hr (by rw [ht.info, hl])
  simp only [ho, hx, Instr.loadAt, Instr.sureAddr, Sem.run_bind, Sem.run_pure, Result.andThen_ok, this]
end
end Go.Proofs.Ythccgfnoolbiiaa
