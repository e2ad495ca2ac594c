/-
  Steps through a region that draws its order: an operation that is taken first; whole pages out of a row, and into it, where nothing else may come up.
-/
import Derived.Test.YtlamllnflbdcjaaDread
import Derived.Deep.RegionHeld3
namespace Go.Proofs.Ytlamllnflbdcjaa
open Go.RowKit
open Dk (zeros zeros_length)

section
variable {ops : Array Oper} {Q : Exit → Act → World → Prop} {md : Region.Mode} {S : World → Prop}
/-- an operation of a region is taken first; the slot that it writes is named -/
theorem take_at {P : Program} {i : Nat} {oi : Oper} {v : Value} {fuel : Nat} {listed : Array Bool} {a : Act} {w : World} {d : Option Tmp} (hi : ops[i]? = some oi) (hd : oi.dst = d)
    (hs : Region.noSelect ops = true) (hf : Region.free md ops listed i = true) (hr : (Region.ready md ops listed).contains i = true)
    (hQ : ∀ c a w, Q (.panic c) (a.put oi.dst v) w → Q (.panic c) a w) (hy : YieldsIf P ops S oi v a) (hS : S w)
    (h : wpAnyH P md ops Q S fuel (listed.setIfInBounds i true) (a.put d v) w) : wpAnyH P md ops Q S (fuel + 1) listed a w :=
  wpAnyH_take hi hs hf hr hQ hy hS (hd ▸ h)
/-- a whole page, under S -/
theorem yields_page {oi : Oper} {a : Act} {b o : Nat} {p : List UInt8} (hw : Region.wanted oi (yielded ops a.tmps) = true) (x : Operand) (ho : oi.op = .load 31 x) (hx : a.eval x = .pointer (some ⟨b, o, none⟩)) (hp : p.length = 64) (hS : ∀ w, S w → w.rangeAt b o (byteVals p)) :
    YieldsIf Try.prog ops S oi (pageV p) a :=
  yieldsIf_load_mid hw 31 x ho b o hx (byteVals p) _ hS Try.underlying31 rfl (by rw [page_info, byteVals_length, hp])
theorem anyH_one {P : Program} {i : Nat} {oi : Oper} {fuel : Nat} {listed : Array Bool} {a : Act} {w : World} (hr : Region.ready md ops listed = [i]) (hi : ops[i]? = some oi) (hw : Region.wanted oi (yielded ops a.tmps) = true)
    (h : ∀ K : Act → World → Prop, (∀ a w, S w → wpAnyH P md ops Q S fuel (listed.setIfInBounds i true) a w → K a w) → Oper.wp P oi a w K Q) : wpAnyH P md ops Q S (fuel + 1) listed a w := by
  refine wpAnyH_ready hr (by simp) (AllReadyH.cons hi (fun K hK => ?_) AllReadyH.nil)
  rw [if_pos hw]
  exact h K (fun a w hS hW => hK.out a w hS (fun _ => hW))
theorem anyH_load_row {i : Nat} {oi : Oper} {fuel : Nat} {listed : Array Bool} {a : Act} {w : World} {b : Nat} {ps : List (List UInt8)} (h : RowsAt w b ps) (n : Nat) {p : List UInt8} (hn : ps[n]? = some p)
    (hr : Region.ready md ops listed = [i]) (hi : ops[i]? = some oi) (hw : Region.wanted oi (yielded ops a.tmps) = true) (x : Operand) (ho : oi.op = .load 31 x) (hx : a.eval x = .pointer (some ⟨b, n * 64, none⟩)) (d : Option Tmp) (hd : oi.dst = d) (hS : S w)
    (hK : wpAnyH Try.prog md ops Q S fuel (listed.setIfInBounds i true) (a.put d (pageV p)) w) : wpAnyH Try.prog md ops Q S (fuel + 1) listed a w :=
  anyH_one hr hi hw fun _ hK' => wp_load_mid 31 x ho b (n * 64) hx (byteVals p) _ (h.range n p hn) Try.underlying31 rfl (by rw [page_info, byteVals_length, h.size p (List.mem_of_getElem? hn)]) (hK' _ _ hS (hd ▸ hK))
theorem anyH_store_row {i : Nat} {oi : Oper} {fuel : Nat} {listed : Array Bool} {a : Act} {w : World} {b : Nat} {ps : List (List UInt8)} (h : RowsAt w b ps) (n : Nat) (hn : n < ps.length) {p : List UInt8} (hp : p.length = 64)
    (hr : Region.ready md ops listed = [i]) (hi : ops[i]? = some oi) (hw : Region.wanted oi (yielded ops a.tmps) = true) (x y : Operand) (ho : oi.op = .store 31 x y) (hx : a.eval x = .pointer (some ⟨b, n * 64, none⟩)) (hy : a.eval y = pageV p) (d : Option Tmp) (hd : oi.dst = d)
    (hS : S (w.setCells b (n * 64) (byteVals p)))
    (hK : wpAnyH Try.prog md ops Q S fuel (listed.setIfInBounds i true) (a.put d undef) (w.setCells b (n * 64) (byteVals p))) : wpAnyH Try.prog md ops Q S (fuel + 1) listed a w :=
  anyH_one hr hi hw fun _ hK' => wp_store_mid 31 x y ho b (n * 64) (byteVals p).toArray hx hy (by rw [List.size_toArray, byteVals_length, hp]; exact h.thereAt n hn) (by rw [page_info, List.size_toArray, byteVals_length, hp]) (all_oneCell_toArray (byteVals_one p)) (by
    rw [List.toList_toArray]
    exact hK' _ _ hS (hd ▸ hK))
/-- a call of a Go function, where nothing else may come up -/
theorem anyH_call {i : Nat} {oi : Oper} {fuel : Nat} {listed : Array Bool} {a : Act} {w : World} {f : Nat} {args : Array Value} {R : Ending → World → Prop} (hc : Calls Try.prog f args w R)
    (hr : Region.ready md ops listed = [i]) (hi : ops[i]? = some oi) (hw : Region.wanted oi (yielded ops a.tmps) = true) (hop : (execOp a.eval oi).run Try.prog w = .ok (.enter f args) w) (d : Option Tmp) (hd : oi.dst = d)
    (hK : ∀ e w', R e w' → ∃ v, e = .returned v ∧ S w' ∧ wpAnyH Try.prog md ops Q S fuel (listed.setIfInBounds i true) (a.put d v) w') : wpAnyH Try.prog md ops Q S (fuel + 1) listed a w :=
  anyH_one hr hi hw fun _ hK' => by
    unfold Oper.wp
    rw [hop]
    refine hc.mono fun e w' he => ?_
    obtain ⟨v, rfl, hS, h⟩ := hK e w' he
    exact hK' _ _ hS (hd ▸ h)
end
end Go.Proofs.Ytlamllnflbdcjaa
