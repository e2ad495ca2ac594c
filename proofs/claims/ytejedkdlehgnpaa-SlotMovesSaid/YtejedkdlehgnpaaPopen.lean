/-
  Arguments that are pages or places, opened; pages held against themselves.
-/
import Derived.Test.YtejedkdlehgnpaaPmem
import Derived.ProofKit
import Derived.OpenShut
import Derived.ShutString
import Derived.ChangeOld
import Derived.Lib.SmallJoins
import Derived.Deep.RegionHeld3
namespace Go.Proofs.Ytejedkdlehgnpaa
open Go.ChangeShapes Go.WideShapes Go.ChangeAt Go.RowKit

theorem run_eqGuard_page (w : World) (x y : Operand) (p q : List UInt8) : (eqGuard .eql 32 x y (pageV p) (pageV q)).run Try.prog w = .ok () w :=
  run_eqGuard_agg w .eql 32 x y _ _ (by kernel_rfl)
theorem run_neGuard_page (w : World) (x y : Operand) (p q : List UInt8) : (eqGuard .neq 32 x y (pageV p) (pageV q)).run Try.prog w = .ok () w :=
  run_eqGuard_agg w .neq 32 x y _ _ (by kernel_rfl)
theorem run_eql_same (w : World) (p : List UInt8) (hp : p.length = 64) : (binOp .eql 32 (pageV p) (pageV p)).run Try.prog w = .ok (.bool true) w := by
  rw [run_eql_page w p p hp hp]; simp
theorem run_neq_same (w : World) (p : List UInt8) (hp : p.length = 64) : (binOp .neq 32 (pageV p) (pageV p)).run Try.prog w = .ok (.bool false) w := by
  rw [run_neq_page w p p hp hp]; simp

theorem run_eqPages_same (w : World) (p : List UInt8) (hp : p.length = 64) : (Op.equalIn 10000 32 (.agg (byteVals p).toArray) (.agg (byteVals p).toArray)).run Try.prog w = .ok true w := by
  have := run_eqPages w p p hp hp
  unfold pageV at this
  rw [this]; simp
/-- an operation of a region is taken first; the slot that it writes is named -/
theorem take_at {P : Program} {ops : Array Oper} {Q : Exit → Act → World → Prop} {md : Region.Mode} {S : World → Prop} {i : Nat} {oi : Oper} {v : Value} {fuel : Nat} {listed : Array Bool} {a : Act} {w : World} {d : Option Tmp} (hi : ops[i]? = some oi) (hd : oi.dst = d)
    (hs : Region.noSelect ops = true) (hf : Region.free md ops listed i = true) (hr : (Region.ready md ops listed).contains i = true)
    (hQ : ∀ c a w, Q (.panic c) (a.put oi.dst v) w → Q (.panic c) a w) (hy : YieldsIf P ops S oi v a) (hS : S w)
    (h : wpAnyH P md ops Q S fuel (listed.setIfInBounds i true) (a.put d v) w) : wpAnyH P md ops Q S (fuel + 1) listed a w :=
  wpAnyH_take hi hs hf hr hQ hy hS (hd ▸ h)

theorem bytes_of : ∀ (cs : List Value), (∀ j, j < cs.length → ∃ v : Int, cs[j]? = some (.int .u8 v) ∧ 0 ≤ v ∧ v ≤ 255) → ∃ l : List UInt8, cs = byteVals l
  | [], _ => ⟨[], rfl⟩
  | u :: cs, h => by
    obtain ⟨l, rfl⟩ := bytes_of cs (fun j hj => by simpa using h (j + 1) (by simpa using hj))
    obtain ⟨v, hv, h0, h1⟩ := h 0 (by simp)
    have hu : u = .int .u8 v := by simpa using hv
    refine ⟨UInt8.ofNat v.toNat :: l, ?_⟩
    unfold byteVals
    rw [List.map_cons, hu, UInt8.toNat_ofNat']
    congr 2
    omega
/-- the cells of a page are bytes -/
theorem page_cells {H : Type} {enc : TypeId × Value → H} {W : World} {fuel : Nat} {base : Nat} {spare : Nat → Bool} {held : Bool} {cs : List Value} {x : DataW H × List MemPlace} (ht : DataW.trod enc Try.prog W base spare held fuel 32 cs = some x) :
    ∃ p : List UInt8, p.length = 64 ∧ cs = byteVals p := by
  obtain ⟨xs, mm, _, _, hcl, hxl, hx⟩ := DataW.trod_array Try.underlying32 ht
  rw [cellsP] at hcl
  obtain ⟨l, hl⟩ := bytes_of cs (fun j hj => by
    have hx' := hx j (by omega)
    rw [cells8, Nat.mul_one] at hx'
    have hs : xs[j]? = some (xs[j]'(by omega)) := List.getElem?_eq_getElem (by omega)
    obtain ⟨v, hv, _, hw⟩ := DataW.trod_int Try.underlying5 (hx'.trans hs)
    have hb := bounds_u8 hw
    refine ⟨v, ?_, hb.1, hb.2⟩
    have e : (cs.drop j).take 1 = [cs[j]] := by rw [List.drop_eq_getElem_cons hj]; rfl
    rw [e] at hv
    rw [List.getElem?_eq_getElem hj]
    injection hv with hv
    rw [hv])
  exact ⟨l, by rw [← byteVals_length, ← hl, hcl], hl⟩
theorem okWide_array {P : Program} {w : World} {r : Reach} {base : Nat} {t : TypeId} {v : Value} {n : Nat} {e : TypeId} (ht : P.underlying t = some (.array n e)) (h : Value.okWide P w r base t v) : ∃ cs, v = .agg cs ∧ cs.size = P.cellsOf t := by
  simp only [Value.okWide, ht] at h
  obtain ⟨cs, h1, h2, _⟩ := h
  exact ⟨cs, h1, h2⟩
theorem open_page {H : Type} {enc : TypeId × Value → H} {W : World} {base : Nat} {v : Value} {d : DataW H} {p : List MemPlace} (hv : Value.okWide Try.prog W .any base 32 v)
    (h : DataW.Trod enc Try.prog W 0 (fun _ => true) true 32 v d p) : ∃ q : List UInt8, q.length = 64 ∧ v = pageV q := by
  obtain ⟨cs, rfl, hsz⟩ := okWide_array Try.underlying32 hv
  obtain ⟨fuel, hf⟩ := h
  obtain ⟨q, hq, he⟩ := page_cells hf
  refine ⟨q, hq, ?_⟩
  unfold pageV
  rw [← he]
  simp [Value.cells]

/-! ### what the statements stand on at their regions: the page and the place, boxed -/
def Boxed (w0 : World) (B : Nat) (p : List UInt8) (x y : Value) (W : World) : Prop :=
  W.rangeAt B 0 (byteVals p) ∧ W.cell? ⟨B + 1, 0, none⟩ = some x ∧ W.cell? ⟨B + 1, 1, none⟩ = some y ∧ B + 1 < W.heap.size ∧ Below w0.heap.size w0 W
theorem keepS {w0 : World} {B : Nat} {p : List UInt8} {x y : Value} {W W' : World} (hb : Below W.heap.size W W')
    (h : W.rangeAt B 0 (byteVals p) ∧ W.cell? ⟨B + 1, 0, none⟩ = some x ∧ W.cell? ⟨B + 1, 1, none⟩ = some y ∧ B + 1 < W.heap.size ∧ Below w0.heap.size w0 W) :
    W'.rangeAt B 0 (byteVals p) ∧ W'.cell? ⟨B + 1, 0, none⟩ = some x ∧ W'.cell? ⟨B + 1, 1, none⟩ = some y ∧ B + 1 < W'.heap.size ∧ Below w0.heap.size w0 W' := by
  obtain ⟨h1, h2, h3, h4, h5⟩ := h
  exact ⟨fun j v hv => (hb.cell (p := ⟨B, 0 + j, none⟩) (by show B < _; omega)).trans (h1 j v hv), (hb.cell (p := ⟨B + 1, 0, none⟩) h4).trans h2, (hb.cell (p := ⟨B + 1, 1, none⟩) h4).trans h3, Nat.lt_of_lt_of_le h4 hb.size, h5.trans (hb.mono h5.size)⟩
theorem Boxed.drew {w : World} {B : Nat} {p : List UInt8} {x y : Value} {W : World} (h : Boxed w B p x y W) : Boxed w B p x y W.drew :=
  ⟨(World.rangeAt_drew ..).2 h.1, by simpa using h.2.1, by simpa using h.2.2.1, by simpa using h.2.2.2.1, h.2.2.2.2.drew⟩
theorem laidOut : laidOutB Try.prog = true := by kernel_rfl
theorem own : ownKnob Try.prog.godebug = none := by kernel_rfl
end Go.Proofs.Ytejedkdlehgnpaa
