/-
  The contracts of bits.Count and bits.First.
-/
import Derived.Test.YtjjejdjhlnlhiaaBiter
namespace Go.Proofs.Ytjjejdjhlnlhiaa
open Go.RowKit Go.Shelf
attribute [local go_sem] Oper.semAt_some

/-- a row's block lies below a world's end -/
theorem Row.lt {w : World} {A : Option Addr} {n : Nat} {bs : List UInt8} (h : Row w A n bs) : 0 < n → ∀ b off, A = some ⟨b, off, none⟩ → b < w.heap.size := fun h0 b off e => by
  obtain ⟨b', off', e', hlt, _⟩ := h.cells h0
  rw [e] at e'
  injection e' with e'; injection e' with e1 e2
  omega
theorem KeepsT.setCell {s B : Nat} {A : Option Addr} {n : Nat} (hB : B < s) (hA : 0 < n → ∀ b off, A = some ⟨b, off, none⟩ → b < B) (W : World) (v : Value) : KeepsT s A n W (W.setCell ⟨B, 0, none⟩ v) :=
  ⟨(KeepsOthers.setCell _ _ _).size, fun k h1 _ => Below.heap_setCell _ _ _ k (fun e => by simp at e; omega), fun h0 b off e => Below.heap_setCell _ _ _ b (fun q => by simp at q; have := hA h0 b off e; omega)⟩
set_option maxRecDepth 100000 in
set_option maxHeartbeats 2000000 in
theorem count_in (a b : Int) (A : Option Addr) (n c : Nat) (bs : List UInt8) (w : World) (hR : Row w A n bs) (hn : n ≤ 1000) :
    CallsIn Fence.wide 5 Try.prog 15 #[.int .i64 a, .int .i64 b, .slice A n c] w fun e W' => e = .returned (.int .i64 ((Bt.all bs true a b).length : Int)) ∧ Below w.heap.size w W' := by
  have HR := Lib.hid hR; clear hR
  refine callsIn_of_wp_marks Try.func15 rfl trivial ?_ rfl
  simp only [Try.ntmps15, List.size_toArray, List.length_cons, List.length_nil, Nat.reduceAdd, Nat.reduceSub, Array.replicate_succ, Array.replicate_zero, List.push_toArray, List.append_toArray, List.nil_append, List.cons_append]
  gi_wp2_with (refine ⟨trivial, ?_⟩; gi_at_call 21; refine (callsIn_wide.2 (those_any _ _ _ _ _ _ _ hn)).mono ?_; rintro e w1 ⟨rfl, hT, hB, hsz⟩)
  simp only [World.size_alloc] at hT hB hsz
  have bN : Boxed w1 w.heap.size 3 (.int .i64 0) := (hB.block w.heap.size (by omega)).trans (Boxed.new w 3 (.int .i64 0))
  have hB0 : Below w.heap.size w w1 := ((Below.refl _ w).alloc (Nat.le_refl _) _).trans (hB.mono (by omega))
  have hlt := HR.out.lt
  refine wpIn_rangeFunc_ownG rfl (by omega) (gf := 22) (lb := #[.pointer (some ⟨w.heap.size + 1 + 1, 0, none⟩), .pointer (some ⟨w.heap.size + 1 + 2, 0, none⟩), .pointer (some ⟨w.heap.size + 1 + 3, 0, none⟩), .pointer (some ⟨w.heap.size + 1, 0, none⟩)]) rfl trivial (enters_of Try.func22 (by kernel_rfl) rfl)
    (those_stops (5 - 1) (by omega) (w.heap.size + 1) true a b A n c bs hn w1 (by omega) (HR.out.step hB0) hT) KeepsT.trans (KeepsT.putObj (by omega) (fun h0 b off e => by have := hlt h0 b off e; omega)) (Below.refl _ _) (fun _ => rfl)
    (fun pre W => Boxed W w.heap.size 3 (.int .i64 (pre.length : Int)) ∧ Below w.heap.size w W)
    (fun _ _ _ => False)
    (OwnFrom.and (Own.from (boxed_own _ _ (fun pre : List Nat => .int .i64 (pre.length : Int))) _) (ownFrom_below (Nat.le_refl _) (by omega)))
    (fun _ _ _ _ _ hs _ _ => hs)
    ⟨bN, hB0⟩
    (fun x => { tmps := #[.int .i64 a, .int .i64 b, .slice A n c, undef, undef, undef, .int .i64 0, .pointer (some ⟨w.heap.size, 0, none⟩), .int .i64 a, .int .i64 b, .slice A n c, thoseV (w.heap.size + 1), .int .i64 (x : Int), undef, undef, undef], defers := [] }) ?assign ?body ?done ?stop
  case assign =>
    intro l x W K hK
    gi_wp2
    simpa using hK
  case body =>
    rintro l pre x W ⟨hb, hB⟩ hlen
    have hc := hb.cell
    have hf := hb.frozen
    have hle : (pre.length : Int) + 1 ≤ 9223372036854775807 := by omega
    have HW : Hid (((pre ++ [x]).length : Int) = (pre.length : Int) + 1) := Lib.hid (by simp)
    gi_wp2
    refine ⟨(KeepsOthers.setCell _ _ _).from _, KeepsT.setCell (by omega) hlt _ _, ?_, hB.setCell (p := ⟨w.heap.size, 0, none⟩) (Nat.le_refl _) _⟩
    rw [HW.out]
    exact hb.set _
  case done =>
    rintro D ys W hD rfl ⟨hb, hB⟩ hK
    have hc := hb.cell
    gi_wp2
    refine ⟨by simp, .inl ⟨_, _, rfl, run_takeDeferred hK, ?_⟩⟩
    exact ⟨_, results_tmp rfl _ _ _, rfl, hB.trans (belowK_b (w := w) (Nat.le_refl _) W D _ _ (by omega) hK rfl rfl)⟩
  case stop =>
    rintro D c pre W _ _ h _
    exact h.elim
theorem count_any (a b : Int) (A : Option Addr) (n c : Nat) (bs : List UInt8) (w : World) (hR : Row w A n bs) (hn : n ≤ 1000) :
    Calls Try.prog 15 #[.int .i64 a, .int .i64 b, .slice A n c] w fun e W' => e = .returned (.int .i64 ((Bt.all bs true a b).length : Int)) ∧ Below w.heap.size w W' :=
  callsIn_wide.1 (count_in a b A n c bs w hR hn)
set_option maxRecDepth 100000 in
set_option maxHeartbeats 2000000 in
theorem first_in (a b : Int) (A : Option Addr) (n c : Nat) (bs : List UInt8) (w : World) (hR : Row w A n bs) (hn : n ≤ 1000) :
    CallsIn Fence.wide 5 Try.prog 16 #[.int .i64 a, .int .i64 b, .slice A n c] w fun e W' => e = .returned (.int .i64 (Bt.first bs a b)) ∧ Below w.heap.size w W' := by
  have HR := Lib.hid hR; clear hR
  refine callsIn_of_wp_marks Try.func16 rfl trivial ?_ rfl
  simp only [Try.ntmps16, List.size_toArray, List.length_cons, List.length_nil, Nat.reduceAdd, Nat.reduceSub, Array.replicate_succ, Array.replicate_zero, List.push_toArray, List.append_toArray, List.nil_append, List.cons_append]
  gi_wp2_with (refine ⟨trivial, ?_⟩; gi_at_call 21; refine (callsIn_wide.2 (those_any _ _ _ _ _ _ _ hn)).mono ?_; rintro e w1 ⟨rfl, hT, hB, hsz⟩)
  simp only [World.size_alloc] at hT hB hsz
  have bN : Boxed w1 w.heap.size 3 (.int .i64 0) := (hB.block w.heap.size (by omega)).trans (Boxed.new w 3 (.int .i64 0))
  have hB0 : Below w.heap.size w w1 := ((Below.refl _ w).alloc (Nat.le_refl _) _).trans (hB.mono (by omega))
  have hlt := HR.out.lt
  refine wpIn_rangeFunc_ownG rfl (by omega) (gf := 22) (lb := #[.pointer (some ⟨w.heap.size + 1 + 1, 0, none⟩), .pointer (some ⟨w.heap.size + 1 + 2, 0, none⟩), .pointer (some ⟨w.heap.size + 1 + 3, 0, none⟩), .pointer (some ⟨w.heap.size + 1, 0, none⟩)]) rfl trivial (enters_of Try.func22 (by kernel_rfl) rfl)
    (those_stops (5 - 1) (by omega) (w.heap.size + 1) false a b A n c bs hn w1 (by omega) (HR.out.step hB0) hT) KeepsT.trans (KeepsT.putObj (by omega) (fun h0 b off e => by have := hlt h0 b off e; omega)) (Below.refl _ _) (fun _ => rfl)
    (fun pre W => (pre = [] ∧ Boxed W w.heap.size 3 (.int .i64 0)) ∧ Below w.heap.size w W)
    (fun c pre W => (c = .ret ∧ ∃ x : Nat, pre = [x] ∧ Boxed W w.heap.size 3 (.int .i64 (x : Int))) ∧ Below w.heap.size w W)
    (OwnFrom.and (Own.from (fun s X Y row hs hg hr => ⟨hs.1, boxed_own w.heap.size 3 (fun _ : Unit => .int .i64 0) () X Y row hs.2 hg hr⟩) _) (ownFrom_below (Nat.le_refl _) (by omega)))
    (fun c => OwnFrom.and (Own.from (fun s X Y row hs hg hr => by
      obtain ⟨h1, x, h2, h3⟩ := hs
      exact ⟨h1, x, h2, boxed_own w.heap.size 3 (fun _ : Unit => .int .i64 (x : Int)) () X Y row h3 hg hr⟩) _) (ownFrom_below (Nat.le_refl _) (by omega)))
    ⟨⟨rfl, bN⟩, hB0⟩
    (fun x => { tmps := #[.int .i64 a, .int .i64 b, .slice A n c, undef, undef, undef, .pointer (some ⟨w.heap.size, 0, none⟩), .int .i64 (x : Int), .int .i64 a, .int .i64 b, .slice A n c, thoseV (w.heap.size + 1), .int .i64 (x : Int), undef], defers := [] }) ?assign ?body ?done ?stop
  case assign =>
    intro l x W K hK
    gi_wp2
    exact hK
  case body =>
    rintro l pre x W ⟨⟨rfl, hb⟩, hB⟩ hlen
    have hc := hb.cell
    have hf := hb.frozen
    gi_wp2
    exact ⟨(KeepsOthers.setCell _ _ _).from _, ⟨rfl, x, rfl, hb.set _⟩, hB.setCell (p := ⟨w.heap.size, 0, none⟩) (Nat.le_refl _) _⟩
  case done =>
    rintro D ys W hD hys ⟨⟨hy0, hb⟩, hB⟩ hK
    have hc := hb.cell
    have hf := hb.frozen
    have HF : Hid (Bt.first bs a b = -1) := Lib.hid (Bt.first_none _ _ _ (hys.symm.trans hy0))
    clear hys hy0
    gi_wp2
    have hK' := (KeepsOthers.setCell W ⟨w.heap.size, 0, none⟩ (.int .i64 (-1))).same D _ hK rfl
    refine ⟨by simp, .inl ⟨_, _, rfl, run_takeDeferred hK', ?_⟩⟩
    have hc5 := cell_kept (hb.set (.int .i64 (-1))).cell (grownBy_putObj' _ D (.deferred none)) (fun r e => by cases e; exact ⟨_, hK', rfl⟩)
    refine ⟨.int .i64 (-1), ?_, by rw [HF.out], (hB.setCell (p := ⟨w.heap.size, 0, none⟩) (Nat.le_refl _) _).trans (belowK_b (w := w) (Nat.le_refl _) _ D _ _ (by omega) hK' rfl rfl)⟩
    simp [results, Try.f16, go_sem, hc5]
  case stop =>
    rintro D c pre W hD hpre ⟨⟨rfl, x, rfl, hb⟩, hB⟩ hK
    have HF := Lib.hid (Bt.first_some _ _ _ _ hpre)
    clear hpre
    gi_wp2
    refine ⟨by simp, .inl ⟨_, _, rfl, run_takeDeferred hK, ?_⟩⟩
    have hc5 := cell_kept hb.cell (grownBy_putObj' _ D (.deferred none)) (fun r e => by cases e; exact ⟨_, hK, rfl⟩)
    refine ⟨.int .i64 (x : Int), ?_, by rw [HF.out], hB.trans (belowK_b (w := w) (Nat.le_refl _) _ D _ _ (by omega) hK rfl rfl)⟩
    simp [results, Try.f16, go_sem, hc5]
theorem first_any (a b : Int) (A : Option Addr) (n c : Nat) (bs : List UInt8) (w : World) (hR : Row w A n bs) (hn : n ≤ 1000) :
    Calls Try.prog 16 #[.int .i64 a, .int .i64 b, .slice A n c] w fun e W' => e = .returned (.int .i64 (Bt.first bs a b)) ∧ Below w.heap.size w W' :=
  callsIn_wide.1 (first_in a b A n c bs w hR hn)
end Go.Proofs.Ytjjejdjhlnlhiaa
