/-
  A slice of one page, made; steps through a region that draws its order, where several operations may come up.
-/
import Derived.Test.YtlbadfeobpnlcaaHnext
import Derived.Test.YtlbadfeobpnlcaaHrefr
import Derived.Great.BuildSlice
import Derived.Deep.RegionHeld3
namespace Go.Proofs.Ytlbadfeobpnlcaa
open Go.RowKit
open Hd (Head rightB pageH)

theorem page_type : ∃ i z, Try.prog.info? 28 = some i ∧ i.zero = some z ∧ i.size = 64 ∧ i.bytes = 64 ∧ z.cells.size = 64 := by
  have h1 := page_info
  have h2 : (Try.prog.info? 28).map (·.bytes) = some 64 := by kernel_rfl
  have h3 : ((Try.prog.info? 28).bind (·.zero)).map (·.cells.size) = some 64 := by kernel_rfl
  cases h : Try.prog.info? 28 with
  | none => rw [h] at h1; cases h1
  | some i =>
    rw [h] at h1 h2 h3
    cases hz : i.zero with
    | none => simp [hz] at h3
    | some z =>
      simp [hz] at h1 h2 h3
      exact ⟨i, z, rfl, hz, h1, h2, h3⟩
theorem run_buildPage (w : World) (p : List UInt8) (hp : p.length = 64) : (Instr.buildSlice 37 1 #[(0, pageV p)]).run Try.prog w = .ok (.slice (some ⟨w.heap.size, 0, none⟩) 1 1) (w.alloc (.cells (byteVals p).toArray 28)) := by
  obtain ⟨i, z, hi, hz, hs, _, _⟩ := page_type
  refine run_buildSlice w 37 28 1 #[(0, pageV p)] _ i z Try.underlying37 hi hz (by rw [hs]; omega) (by rw [hs]; omega) ?_
  rw [hs]
  have h := Great.fill_whole (s := 64) (by omega) [pageV p] ((Array.range (1 * 64)).map (z.cells[· % z.cells.size]!)) (fun v hv => by
    rw [List.mem_singleton] at hv
    rw [hv]
    show (byteVals p).toArray.size = 64
    rw [List.size_toArray, byteVals_length, hp]) (by simp)
  refine h.trans ?_
  congr 1
  show ([pageV p].flatMap fun v => v.cells.toList).toArray = _
  simp [pageV, Value.cells]
theorem wp_buildPage {o : Oper} {a : Act} {w : World} {K : Act → World → Prop} {Q : Exit → Act → World → Prop} {p : List UInt8} (hp : p.length = 64) (x : Operand) (ho : o.op = .buildSlice 37 1 #[(0, x)]) (hx : a.eval x = pageV p)
    (h : K (a.put o.dst (.slice (some ⟨w.heap.size, 0, none⟩) 1 1)) (w.alloc (.cells (byteVals p).toArray 28))) : o.wp Try.prog a w K Q := by
  have hr := run_buildPage w p hp
  unfold Oper.wp execOp
  simp only [ho, List.map_toArray, List.map_cons, List.map_nil, hx, Sem.run_bind, hr, Result.andThen_ok]
  exact h
theorem wpList_buildPage {ops : Array Oper} {rest : List Oper} {o : Oper} {a : Act} {w : World} {Q : Exit → Act → World → Prop} {p : List UInt8} (hp : p.length = 64) (hgd : o.guard = none) (x : Operand) (ho : o.op = .buildSlice 37 1 #[(0, x)]) (hx : a.eval x = pageV p)
    (h : wpList Try.prog ops Q rest (a.put o.dst (.slice (some ⟨w.heap.size, 0, none⟩) 1 1)) (w.alloc (.cells (byteVals p).toArray 28))) : wpList Try.prog ops Q (o :: rest) a w :=
  wpList_plain hgd fun _ hK => wp_buildPage hp x ho hx (hK _ _ h)
/-- it is a row of one page -/
theorem row_one (w : World) (p : List UInt8) (hp : p.length = 64) (t : TypeId) : PageRow (w.alloc (.cells (byteVals p).toArray t)) (some ⟨w.heap.size, 0, none⟩) 1 [p] where
  len := rfl
  small := by unfold maxLen; omega
  size := fun q hq => by rw [List.mem_singleton] at hq; rw [hq]; exact hp
  cells := fun _ => ⟨w.heap.size, 0, rfl, by simp, fun i q hq => by
    match i, hq with
    | 0, hq =>
      injection hq with hq
      rw [← hq]
      exact (pageAt_new w p t hp).range⟩

section
variable {P : Program} {ops : Array Oper} {Q : Exit → Act → World → Prop} {md : Region.Mode} {S : World → Prop}
theorem allReady_want {fuel : Nat} {listed : Array Bool} {a : Act} {w : World} {i : Nat} {o : Oper} {rs : List Nat} (ho : ops[i]? = some o) (hw : Region.wanted o (yielded ops a.tmps) = true)
    (h : ∀ K' : Act → World → Prop, (∀ a w, S w → wpAnyH P md ops Q S fuel (listed.setIfInBounds i true) a w → K' a w) → Oper.wp P o a w K' Q)
    (hs : AllReadyH P md ops Q S fuel listed a w rs) : AllReadyH P md ops Q S fuel listed a w (i :: rs) :=
  AllReadyH.cons ho (fun K hK => by rw [if_pos hw]; exact h K (fun a w hS hW => hK.out a w hS (fun _ => hW))) hs
theorem step_call {o : Oper} {a : Act} {w : World} {K : Act → World → Prop} {f : FuncId} {args : Array Value} {v : Value} {R : World → Prop} (hc : Calls P f args w fun e w' => e = .returned v ∧ R w') (hop : (execOp a.eval o).run P w = .ok (.enter f args) w)
    (hK : ∀ w', R w' → K (a.put o.dst v) w') : Oper.wp P o a w K Q := by
  unfold Oper.wp
  rw [hop]
  refine hc.mono fun e w' ⟨he, hR⟩ => ?_
  subst he
  exact hK w' hR
end
/-- a function with a body is entered -/
def enterB (P : Program) (f : FuncId) : Bool := match P.funcs[f]? with
  | some fn => !(fn.name == "runtime.NumGoroutine") && fn.body.isSome
  | none => false
theorem run_enters {P : Program} {f : FuncId} (h : enterB P f = true) (args : Array Value) (w : World) : (callFunc f args).run P w = .ok (.enter f args) w := by
  unfold enterB at h
  cases hf : P.funcs[f]? with
  | none => rw [hf] at h; cases h
  | some fn =>
    rw [hf] at h
    simp only [Bool.and_eq_true, Bool.not_eq_true'] at h
    obtain ⟨h1, h2⟩ := h
    obtain ⟨c, hc⟩ := Option.isSome_iff_exists.1 h2
    have h3 : fn.name ≠ "runtime.NumGoroutine" := by simpa using h1
    simp [callFunc, hf, h3, hc]
/-- a call of a Go function by its name -/
theorem run_call_func {P : Program} {o : Oper} {a : Act} (w : World) (f : FuncId) (xs : Array Operand) (ts : Array TypeId) (hf : enterB P f = true) (ho : o.op = .call { callee := .value (.func f), args := xs, argTypes := ts }) : (execOp a.eval o).run P w = .ok (.enter f (xs.map a.eval)) w := by
  have h := run_enters hf (xs.map a.eval) w
  unfold execOp
  simp only [ho]
  simp [resolve, go_sem, Act.eval, Deferred.ofValue, invoke]
  exact h
section
variable {ops : Array Oper} {Q : Exit → Act → World → Prop} {md : Region.Mode} {S : World → Prop}
/-- a slice of one page is made, among those that may come up -/
theorem allReady_build {fuel : Nat} {listed : Array Bool} {a : Act} {w : World} {rs : List Nat} {p : List UInt8} (hp : p.length = 64) (i d : Nat) (x : Operand) (hop : (ops[i]?).map (·.op) = some (.buildSlice 37 1 #[(0, x)])) (hd : (ops[i]?).map (·.dst) = some (some d))
    (hw : ((ops[i]?).map fun o => Region.wanted o (yielded ops a.tmps)) = some true) (hx : a.eval x = pageV p) (hS : S (w.alloc (.cells (byteVals p).toArray 28)))
    (h : wpAnyH Try.prog md ops Q S fuel (listed.setIfInBounds i true) (a.put (some d) (.slice (some ⟨w.heap.size, 0, none⟩) 1 1)) (w.alloc (.cells (byteVals p).toArray 28)))
    (hs : AllReadyH Try.prog md ops Q S fuel listed a w rs) : AllReadyH Try.prog md ops Q S fuel listed a w (i :: rs) := by
  cases ho : ops[i]? with
  | none => rw [ho] at hop; cases hop
  | some o =>
    rw [ho] at hop hd hw
    simp only [Option.map_some, Option.some.injEq] at hop hd hw
    exact allReady_want ho hw (fun K hK => wp_buildPage hp x hop hx (hK _ _ hS (hd ▸ h))) hs
/-- a call of a Go function, among those that may come up -/
theorem allReady_call {P : Program} {fuel : Nat} {listed : Array Bool} {a : Act} {w : World} {rs : List Nat} (i d : Nat) (f : FuncId) (xs : Array Operand) (ts : Array TypeId) (args : Array Value) (v : Value) {R : World → Prop} (hc : Calls P f args w fun e w' => e = .returned v ∧ R w')
    (hf : enterB P f = true) (hop : (ops[i]?).map (·.op) = some (.call { callee := .value (.func f), args := xs, argTypes := ts })) (hd : (ops[i]?).map (·.dst) = some (some d))
    (hw : ((ops[i]?).map fun o => Region.wanted o (yielded ops a.tmps)) = some true) (hx : xs.map a.eval = args)
    (h : ∀ w', R w' → S w' ∧ wpAnyH P md ops Q S fuel (listed.setIfInBounds i true) (a.put (some d) v) w')
    (hs : AllReadyH P md ops Q S fuel listed a w rs) : AllReadyH P md ops Q S fuel listed a w (i :: rs) := by
  cases ho : ops[i]? with
  | none => rw [ho] at hop; cases hop
  | some o =>
    rw [ho] at hop hd hw
    simp only [Option.map_some, Option.some.injEq] at hop hd hw
    refine allReady_want ho hw (fun K hK => step_call hc ?_ (fun w' hR => ?_)) hs
    · rw [run_call_func w f xs ts hf hop, hx]
    · rw [hd]
      exact hK _ _ (h w' hR).1 (h w' hR).2
end
section
variable {ops : Array Oper} {S : World → Prop}
theorem yields_page {oi : Oper} {a : Act} {b : Nat} {p : List UInt8} (hw : Region.wanted oi (yielded ops a.tmps) = true) (x : Operand) (ho : oi.op = .load 28 x) (hx : a.eval x = .pointer (some ⟨b, 0, none⟩)) (hp : p.length = 64) (hS : ∀ w, S w → PageAt w b p) :
    YieldsIf Try.prog ops S oi (pageV p) a :=
  yieldsIf_load_mid hw 28 x ho b 0 hx (byteVals p) _ (fun w h => (hS w h).range) Try.underlying28 rfl (by rw [page_info, byteVals_length, hp])
theorem yields_head {t : TypeId} (ht : HeadT t) {oi : Oper} {a : Act} {b : Nat} {h : Head} (hw : Region.wanted oi (yielded ops a.tmps) = true) (x : Operand) (ho : oi.op = .load t x) (hx : a.eval x = .pointer (some ⟨b, 0, none⟩)) (hS : ∀ w, S w → HeadAt w b h) :
    YieldsIf Try.prog ops S oi (headV h) a := by
  obtain ⟨d, hd, hr⟩ := ht.row
  exact yieldsIf_load_mid hw t x ho b 0 hx (headVals h) d (fun w k => (hS w k).range) hd hr ht.info
end
end Go.Proofs.Ytlbadfeobpnlcaa
