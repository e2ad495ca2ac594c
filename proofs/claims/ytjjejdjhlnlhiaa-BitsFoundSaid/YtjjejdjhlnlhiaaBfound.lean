/-
  Proved: BitsFound returns true for every pages, every two places and every stop: which bits are 1 between them, how many, and the first that is 0, is what the document says; whoever stops going through them has the first ones.
  Conditions: none beside the statement's own.
-/
import Derived.Test.YtjjejdjhlnlhiaaBawake
import Derived.Test.YtjjejdjhlnlhiaaBall
import Derived.Maps.AppendAt
import Derived.Maps.OwnIn
import Derived.ChangeSame
namespace Go.Proofs.Ytjjejdjhlnlhiaa.bitsFound
open Go.ChangeShapes Go.WideShapes Go.ChangeAt Go.RowKit Go.Shelf
attribute [local go_sem] Oper.semAt_some

/-- the variables of the statement that lie in memory -/
structure Vars (w : World) (N : Nat) (a b stop : Int) : Prop where
  lt : N + 1 < w.heap.size
  c0 : w.cell? ⟨N, 0, none⟩ = some (.int .i64 a)
  c1 : w.cell? ⟨N, 1, none⟩ = some (.int .i64 b)
  c2 : w.cell? ⟨N + 1, 0, none⟩ = some (.int .i64 stop)
theorem Vars.keep {w w' : World} {N K : Nat} {a b stop : Int} (h : Vars w N a b stop) (hb : Below K w w') (hK : N + 1 < K) : Vars w' N a b stop where
  lt := Nat.lt_of_lt_of_le h.lt hb.size
  c0 := (hb.cell (p := ⟨N, 0, none⟩) (by show N < K; omega)).trans h.c0
  c1 := (hb.cell (p := ⟨N, 1, none⟩) (by show N < K; omega)).trans h.c1
  c2 := (hb.cell (p := ⟨N + 1, 0, none⟩) hK).trans h.c2
theorem Vars.step {w w' : World} {N : Nat} {a b stop : Int} (h : Vars w N a b stop) (hb : Below w.heap.size w w') : Vars w' N a b stop := h.keep hb h.lt
theorem vars_new (w : World) (a b stop : Int) : Vars ((w.alloc (.cells #[.int .i64 a, .int .i64 b] 31)).alloc (.cells #[.int .i64 stop] 3)) w.heap.size a b stop where
  lt := by simp
  c0 := by
    rw [World.cell?_of_block (w := w.alloc (.cells #[.int .i64 a, .int .i64 b] 31)) (Below.heap_alloc _ _ _ (by simp)), World.cell?_alloc_mark]; rfl
  c1 := by
    rw [World.cell?_of_block (w := w.alloc (.cells #[.int .i64 a, .int .i64 b] 31)) (Below.heap_alloc _ _ _ (by simp)), World.cell?_alloc_mark]; rfl
  c2 := by
    have := World.cell?_alloc_mark (w.alloc (.cells #[.int .i64 a, .int .i64 b] 31)) #[.int .i64 stop] 3 (0, 0) 0
    rw [World.size_alloc] at this
    exact this
/-- a region that reads, and calls what leaves a world of the class: one order serves for all -/
theorem wp_region_class {id : Nat} {C : World → Prop} {Q : Exit → Act → World → Prop} {a : Act} {w : World} {l : List Oper} (hB : Region.lexB .any l.toArray = true) (hC : C { w with drawn := w.drawn + 1 })
    (h : wpQuiet Try.prog l.toArray C (fun a' => ∀ w', C w' → Q .normal a' w') l a) : (Code.region id l.toArray true).wp Try.prog Q a w :=
  wp_region_quiet (C := C) (by kernel_rfl) hB hC (by simpa using h)
theorem wpQuiet_take {ops : Array Oper} {rest : List Oper} {op : Oper} {a : Act} {Q : Act → Prop} {C : World → Prop} (v : Value) (hw : Region.wanted op (yielded ops a.tmps) = true) (hrun : ∀ w, C w → (execOp a.eval op).run Try.prog w = .ok (.value v) w)
    (h : wpQuiet Try.prog ops C Q rest (a.put op.dst v)) : wpQuiet Try.prog ops C Q (op :: rest) a := by
  refine wpQuiet_step (fun K hK => ?_)
  rw [if_pos hw]
  refine ⟨v, fun w hC => ?_, hK _ h⟩
  unfold Oper.quietAt
  rw [hrun w hC]
  exact ⟨rfl, rfl⟩
theorem wpQuiet_call {ops : Array Oper} {rest : List Oper} {op : Oper} {a : Act} {Q : Act → Prop} {C : World → Prop} (f : FuncId) (args : Array Value) (v : Value) (hw : Region.wanted op (yielded ops a.tmps) = true) (hrun : ∀ w, (execOp a.eval op).run Try.prog w = .ok (.enter f args) w)
    (hcall : ∀ w, C w → Calls Try.prog f args w fun e w' => e = .returned v ∧ C w') (h : wpQuiet Try.prog ops C Q rest (a.put op.dst v)) : wpQuiet Try.prog ops C Q (op :: rest) a := by
  refine wpQuiet_step (fun K hK => ?_)
  rw [if_pos hw]
  refine ⟨v, fun w hC => ?_, hK _ h⟩
  unfold Oper.quietAt
  rw [hrun w]
  exact ⟨rfl, hcall w hC⟩
/-- what 'got = append(got, i)' leaves: G is the variable's block, E where the loop began -/
theorem got_appended {W w1 : World} {E G : Nat} {v v' : Value} {k m : Nat} {xs ys : List Value} {tmp : Obj} (hG : G < E) (hE : E ≤ W.heap.size) (hv : Boxed W G 32 v) (hrow : W.ownsRow E 3 1 v k xs)
    (hown' : w1.ownsRow E 3 1 v' m ys) (hgrow : (W.alloc tmp).grownBy w1 v.ownBlock) :
    Boxed w1 G 32 v ∧ Boxed (w1.setCell ⟨G, 0, none⟩ v') G 32 v' ∧ (w1.setCell ⟨G, 0, none⟩ v').ownsRow E 3 1 v' m ys ∧ KeepsOthers W (w1.setCell ⟨G, 0, none⟩ v') ∧ Below G W (w1.setCell ⟨G, 0, none⟩ v') ∧
      ∀ j, j < E → j ≠ G → (w1.setCell ⟨G, 0, none⟩ v').heap[j]? = W.heap[j]? := by
  have hte : (32 : TypeId) ≠ 3 := by decide
  have hv1 : Boxed w1 G 32 v := (hv.alloc tmp).kept hgrow (hv.not_row hte hrow)
  have own : ∀ j, v.ownBlock = some j → E ≤ j := fun j ej => (World.ownsRow.lt hrow j ej).1
  refine ⟨hv1, hv1.set v', hown'.kept (grownBy_setCell' w1 G v') (.inr (hv1.not_row hte hown').symm), ?_, ?_, ?_⟩
  · refine ((KeepsOthers.alloc W tmp).trans (KeepsOthers.of_grownBy hgrow fun j o ej hj => ?_)).trans (KeepsOthers.setCell _ _ _)
    rcases (hrow.alloc tmp).2 with ⟨rfl, _⟩ | ⟨g, cap, cur, rfl, _, hgb, _⟩
    · simp [Value.ownBlock] at ej
    · obtain rfl : g = j := by simpa [Value.ownBlock] using ej
      rw [hgb] at hj; cases hj; rfl
  · exact (((Below.refl G W).alloc (by omega) tmp).grown hgrow (by simp; omega) fun j ej => by have := own j ej; omega).setCell (p := ⟨G, 0, none⟩) (Nat.le_refl _) v'
  · intro j hj hne
    rw [Below.heap_setCell _ _ _ j (fun e => hne e), hgrow.block j (by simp; omega) (fun e => by have := own j e.symm; omega), Below.heap_alloc W tmp j (by omega)]
set_option maxRecDepth 100000 in
set_option maxHeartbeats 4000000 in
theorem walk_few (A : Option Addr) (n c : Nat) (bs : List UInt8) (a b stop : Int) (w : World) (h : Row w A n bs) (hn : n ≤ 4) :
    CallsIn Fence.wide 8 Try.prog 4 #[.slice A n c, .agg #[.int .i64 a, .int .i64 b], .int .i64 stop] w fun e w' => e = .returned (.bool true) ∧ Below w.heap.size w w' := by
  have HR := Lib.hid h; clear h
  have hn' : n ≤ 1000 := by omega
  refine callsIn_of_wp_marks Try.func4 rfl trivial ?_ rfl
  simp only [Try.ntmps4, List.size_toArray, List.length_cons, List.length_nil, Nat.reduceAdd, Nat.reduceSub, Array.replicate_succ, Array.replicate_zero, List.push_toArray, List.append_toArray, List.nil_append, List.cons_append]
  gi_wp2_with (first
    | (refine ⟨trivial, ?_⟩; gi_at_call 6; refine (callsIn_wide.2 (awake_any _)).mono ?_; rintro e w1 ⟨rfl, hb1⟩; have V1 := Lib.hid ((vars_new w a b stop).step hb1); have q1 := V1.out.c0; have q2 := V1.out.c1; have B1 : Hid (Below w.heap.size w w1) := Lib.hid ((((Below.refl _ w).alloc (Nat.le_refl _) _).alloc (by simp) _).trans (hb1.mono (by simp; omega))); have R1 := Lib.hid (HR.out.step B1.out); clear hb1)
    | (refine ⟨trivial, ?_⟩; gi_at_call 12; refine (callsIn_wide.2 (refall_row _ _ _ _ _ _ _ R1.out hn')).mono ?_; rintro e w2 ⟨v, rfl, ho, hb2⟩; obtain ⟨A2, c2, rfl, hr2, hc2, hm2, _, hA2⟩ := OwnN.form ho; have hNG := (V1.out.step hb2).lt; have HA2 := Lib.hid hA2; clear hA2; have hb2' := (Below.refl w2.heap.size w2).alloc (Nat.le_refl _) (.cells #[.slice none 0 0] 32); have V2 := Lib.hid ((V1.out.step hb2).step hb2'); have q1' := V2.out.c0; have q2' := V2.out.c1; have B2 := Lib.hid (B1.out.trans (hb2.mono B1.out.size)); have R2 := Lib.hid ((R1.out.step hb2).step hb2'); have N2 := Lib.hid (hr2.step hb2'); clear ho hr2 hb2 hb2' V1 B1 R1 q1 q2)
    | (refine ⟨trivial, ?_⟩; gi_at_call 13; refine (callsIn_wide.2 (all_any _ _ _ _ _ _ _ R2.out hn')).mono ?_; rintro e w3 ⟨s, A3, c3, rfl, hT, hr3, hb3, hs1, hs2, hA3⟩))
  simp only [World.size_alloc] at hb3 hs1 hA3
  have bG : Boxed w3 w2.heap.size 32 (.slice none 0 0) := (hb3.block w2.heap.size (by omega)).trans (Boxed.new w2 32 (.slice none 0 0))
  have V3 := Lib.hid (V2.out.keep hb3 (by omega))
  have R3 := Lib.hid (R2.out.step (hb3.mono (by simp)))
  have N3 := Lib.hid (N2.out.step (hb3.mono (by simp)))
  have hE : w2.heap.size + 1 ≤ w3.heap.size := by have := hb3.size; simp at this; omega
  have B3 : Hid (Below w.heap.size w w3) := Lib.hid ((B2.out.trans ((Below.refl _ w2).alloc B2.out.size _)).trans (hb3.mono (by have := B2.out.size; omega)))
  have hlen0 := Bt.all_length bs true a b
  have HLB := Lib.hid HR.out.len
  rw [HLB.out] at hlen0
  obtain ⟨i0, hi, hz0, hz1, hz2⟩ := info_parts infoI
  clear V2 R2 N2 q1' q2'
  refine wpIn_rangeFunc_ownG rfl (by omega) (gf := 22) (lb := #[.pointer (some ⟨s + 1, 0, none⟩), .pointer (some ⟨s + 2, 0, none⟩), .pointer (some ⟨s + 3, 0, none⟩), .pointer (some ⟨s, 0, none⟩)]) rfl trivial (enters_of Try.func22 (by kernel_rfl) rfl)
    (those_stops (8 - 1) (by omega) s true a b A3 n c3 bs hn' w3 hs2 hr3 hT) KeepsT.trans (KeepsT.putObj hs2 hr3.lt) (Below.refl _ _) (fun _ => rfl)
    (fun pre W => (∃ v, Boxed W w2.heap.size 32 v ∧ W.ownsRow w3.heap.size 3 1 v pre.length (numVals pre) ∧ (∀ j : Nat, j < pre.length → (j : Int) ≠ stop)) ∧ Below w2.heap.size w3 W)
    (fun c pre W => (∃ v, Boxed W w2.heap.size 32 v ∧ W.ownsRow w3.heap.size 3 1 v (pre.length - 1) (numVals pre.dropLast) ∧ (c = .exit 0 ∧ pre ≠ [] ∧ stop = ((pre.length - 1 : Nat) : Int))) ∧ Below w2.heap.size w3 W)
    (OwnFrom.and (Own.from (holdsRow_own w3.heap.size w2.heap.size 32 3 1 (fun pre : List Nat => pre.length) (fun pre => numVals pre) (fun pre _ => ∀ j : Nat, j < pre.length → (j : Int) ≠ stop)) _) (ownFrom_below (by omega) (by omega)))
    (fun c => OwnFrom.and (Own.from (holdsRow_own w3.heap.size w2.heap.size 32 3 1 (fun pre : List Nat => pre.length - 1) (fun pre => numVals pre.dropLast) (fun pre _ => c = .exit 0 ∧ pre ≠ [] ∧ stop = ((pre.length - 1 : Nat) : Int))) _) (ownFrom_below (by omega) (by omega)))
    ⟨⟨_, bG, World.ownsRow_nil _ _ _ _, fun j hj => absurd hj (Nat.not_lt_zero _)⟩, Below.refl _ _⟩
    (fun x => { tmps := #[.slice A n c, .agg #[.int .i64 a, .int .i64 b], .int .i64 stop, undef, .pointer (some ⟨w.heap.size, 0, none⟩), .pointer (some ⟨w.heap.size + 1, 0, none⟩), .bool false, .slice A2 (Bt.all bs true a b).length c2, .pointer (some ⟨w2.heap.size, 0, none⟩), .int .i64 (x : Int), .bool true, .bool false, .slice A n c, .int .i64 (n : Int), .bool (decide (4 < (n : Int))), .slice A n c, .pointer (some ⟨w.heap.size, 0, none⟩), .int .i64 a, .pointer (some ⟨w.heap.size, 1, none⟩), .int .i64 b, .slice A2 (Bt.all bs true a b).length c2, .pointer (some ⟨w.heap.size, 0, none⟩), .int .i64 a, .pointer (some ⟨w.heap.size, 1, none⟩), .int .i64 b, .slice A n c, thoseV s, .int .i64 (x : Int), undef, undef, undef, undef, undef, undef, undef, undef, undef, undef, undef, undef, undef, undef, undef, undef, undef, undef, undef, undef, undef, undef, undef, undef, undef, undef, undef, undef, undef, undef, undef, undef, undef, undef, undef, undef, undef, undef, undef, undef, undef, undef, undef, undef, undef, undef, undef, undef, undef, undef], defers := [] }) ?assign ?body ?done ?stop
  case assign =>
    intro l x W K hK
    gi_wp2
    exact hK
  case body =>
    rintro l pre x W ⟨⟨v, hv, hrow, hst⟩, hB⟩ hlen
    obtain ⟨Ag, cg, rfl, _⟩ := OwnN.form (zs := pre) hrow
    have hc := hv.cell
    have hf := hv.frozen
    have hq := (V3.out.keep hB hNG).c2
    have hEW : w3.heap.size ≤ W.heap.size := hB.size
    have HV := Lib.hid hv; clear hv
    have HRW := Lib.hid hrow; clear hrow
    have HB := Lib.hid hB; clear hB
    by_cases hs : (pre.length : Int) = stop
    · have hbb : ((pre.length : Int) == stop) = true := by simp [hs]
      have HS := Lib.hid hs; clear hs
      gi_wp2
      refine ⟨KeepsFrom.refl _ _, ⟨_, HV.out, ?_, rfl, by simp, ?_⟩, HB.out⟩
      · rw [List.dropLast_concat, List.length_append]
        exact HRW.out
      · rw [List.length_append]
        exact HS.out.symm
    · have hbb : ((pre.length : Int) == stop) = false := by simp [hs]
      have HS := Lib.hid hs; clear hs
      have HST := Lib.hid hst; clear hst
      gi_wp2_with (gi_at_builtin; refine wpListIn_append_own _ rfl _ _ 32 rfl w3.heap.size 3 i0 _ 1 8 Try.underlying32 hi hz0 hz1 hz2 rfl (by decide) _ _ _ rfl (World.ownsRow.alloc HRW.out _) ⟨W.heap.size, 0, none⟩ 1 1 [.int .i64 (x : Int)] rfl rfl (cell_new1 _ _ _) (by simp [Value.oneCell']) (by unfold maxLen; omega) (by omega) (by simp; omega) ?_; intro v' w5 hown' hgrow _; obtain ⟨g', cap', rfl⟩ := ownsRow_succ hown'; have HGA := Lib.hid (got_appended (by omega) hEW HV.out HRW.out hown' hgrow); have hc1 := HGA.out.1.cell; have hf1 := HGA.out.1.frozen; clear hown' hgrow)
      obtain ⟨_, k2, k3, k4, k5, k6⟩ := HGA.out
      refine ⟨k4.from _, ⟨k4.size, fun j h1 h2 => k6 j (by omega) (by omega), fun h0 bb off e => k6 bb (hr3.lt h0 bb off e) (by have := hA3 h0 bb off e; omega)⟩, ⟨_, k2, ?_, ?_⟩, HB.out.trans k5⟩
      · rw [numVals_snoc, List.length_append]
        exact k3
      · intro j hj
        rw [List.length_append, List.length_singleton] at hj
        rcases Nat.lt_or_ge j pre.length with h' | h'
        · exact HST.out j h'
        · rw [show j = pre.length by omega]; exact HS.out
  case' done =>
    rintro D ys W hD rfl ⟨⟨v, hv, hrow, hst⟩, hB⟩ hK
    obtain ⟨Ag, cg, rfl, hgr, _⟩ := OwnN.form (zs := Bt.all bs true a b) hrow
    have hc := hv.cell
    have V := Lib.hid (V3.out.keep hB hNG)
    have q2 := V.out.c2
    have HNW : Hid (NumRow W A2 (Bt.all bs true a b).length (Bt.all bs true a b)) := Lib.hid (N3.out.keep hB.size fun g off e _ => hB.block g (by have := (HA2.out g off e).2; omega))
    have HGR := Lib.hid hgr; clear hgr hrow hv
    have HRL : Hid (Row W A n bs) := Lib.hid (R3.out.keep hB.size fun h0 g off e _ => hB.block g (by have := HR.out.lt h0 g off e; omega))
    have HBW := Lib.hid (B3.out.trans (hB.mono (by omega))); clear hB
    have hguard : stop < 0 ∨ (0 ≤ stop ∧ ((Bt.all bs true a b).length : Int) ≤ stop) := by
      by_cases h' : stop < 0
      · exact .inl h'
      · right
        refine ⟨by omega, ?_⟩
        by_cases h'' : stop < (Bt.all bs true a b).length
        · exact absurd (show ((stop.toNat : Nat) : Int) = stop by omega) (hst stop.toNat (by omega))
        · omega
    clear hst
    rcases hguard with hg | ⟨hg1, hg2⟩
    all_goals
      gi_wp2_with (refine ⟨trivial, ?_⟩; gi_at_call 14; refine (callsIn_wide.2 (nums_any _ _ _ _ _ _ _ HGR.out HNW.out (by omega))).mono ?_; rintro e w' ⟨rfl, m, rfl⟩)
  case' stop =>
    rintro D c pre W hD hpre ⟨⟨v, hv, hrow, rfl, hne, hst⟩, hB⟩ hK
    obtain ⟨k, hk⟩ : ∃ k, pre.dropLast.length = k := ⟨_, rfl⟩
    have hpl : 1 ≤ pre.length := by cases pre with
      | nil => exact absurd rfl hne
      | cons x r => simp
    have hk' : pre.length - 1 = k := by rw [← hk, List.length_dropLast]
    have htk : pre.dropLast = (Bt.all bs true a b).take k := by
      obtain ⟨r, hr⟩ := hpre
      rw [← hr, List.take_append_of_le_length (by omega), ← hk', List.dropLast_eq_take]
    have hkl : k < (Bt.all bs true a b).length := by
      obtain ⟨r, hr⟩ := hpre
      rw [← hr, List.length_append]; omega
    rw [hk'] at hst hrow
    rw [htk] at hrow hk
    subst hst
    clear htk hk' hpl hne hpre
    have hrow' : OwnN W w3.heap.size v ((Bt.all bs true a b).take k) := by unfold OwnN; rw [hk]; exact hrow
    obtain ⟨Ag, cg, rfl, hgr, _⟩ := OwnN.form hrow'
    rw [hk] at hgr hv
    have hc := hv.cell
    have V := Lib.hid (V3.out.keep hB hNG)
    have q2 := V.out.c2
    have HNW : Hid (NumRow W A2 (Bt.all bs true a b).length (Bt.all bs true a b)) := Lib.hid (N3.out.keep hB.size fun g off e _ => hB.block g (by have := (HA2.out g off e).2; omega))
    have HGR := Lib.hid hgr; clear hgr hrow hrow' hv hk
    have HNK := Lib.hid (HNW.out.take k (by omega))
    have HRL : Hid (Row W A n bs) := Lib.hid (R3.out.keep hB.size fun h0 g off e _ => hB.block g (by have := HR.out.lt h0 g off e; omega))
    have HBW := Lib.hid (B3.out.trans (hB.mono (by omega))); clear hB
    obtain ⟨b2, off2, hA2e, _, _⟩ := HNW.out.cells (by omega)
    have HSM : Hid (∀ j, Calls Try.prog 14 #[.slice Ag k cg, .slice (some ⟨b2, off2, none⟩) k c2] (W.drewN j) fun e w' => e = .returned (.bool true) ∧ ∃ m, w' = (W.drewN j).drewN m) :=
      Lib.hid fun j => nums_any _ _ _ _ _ _ _ (HGR.out.keep (Nat.le_refl _) fun _ _ _ _ => rfl) (hA2e ▸ (HNK.out.keep (w' := W.drewN j) (Nat.le_refl _) fun _ _ _ _ => rfl)) (by omega)
    have hkc : k ≤ c2 := by omega
    unfold maxLen at hm2
    gi_wp2
    refine wpIn_wide.2 ?_
    go_quiet ((go_at_call 14; refine Calls.quiet_of (HSM.out _)))
    gi_wp2
  all_goals
    have hKW := (Array.getElem?_eq_some_iff.1 hK).1
    refine wpIn_wide.2 ?_
    refine wp_region_class (C := fun w' => Below W.heap.size W w') (by kernel_rfl) ⟨rfl, rfl, rfl, Nat.le_refl _, fun _ _ => rfl⟩ ?_
    refine wpQuiet_take (.pointer (some ⟨w.heap.size, 0, none⟩)) (by kernel_rfl) (fun w' hw' => ?_) ?_
    · go_simp
    (try simp only [Act.put, List.setIfInBounds_toArray, List.set_cons_zero, List.set_cons_succ])
    refine wpQuiet_take (.int .i64 a) (by kernel_rfl) (fun w' hw' => ?_) ?_
    · have q := (V.out.step hw').c0; go_simp
    (try simp only [Act.put, List.setIfInBounds_toArray, List.set_cons_zero, List.set_cons_succ])
    refine wpQuiet_take (.pointer (some ⟨w.heap.size, 1, none⟩)) (by kernel_rfl) (fun w' hw' => ?_) ?_
    · go_simp
    (try simp only [Act.put, List.setIfInBounds_toArray, List.set_cons_zero, List.set_cons_succ])
    refine wpQuiet_take (.int .i64 b) (by kernel_rfl) (fun w' hw' => ?_) ?_
    · have q := (V.out.step hw').c1; go_simp
    (try simp only [Act.put, List.setIfInBounds_toArray, List.set_cons_zero, List.set_cons_succ])
    refine wpQuiet_take (.slice A n c) (by kernel_rfl) (fun w' hw' => ?_) ?_
    · go_simp
    (try simp only [Act.put, List.setIfInBounds_toArray, List.set_cons_zero, List.set_cons_succ])
    refine wpQuiet_call 15 #[.int .i64 a, .int .i64 b, .slice A n c] (.int .i64 ((Bt.all bs true a b).length : Int)) (by kernel_rfl) (fun w' => by go_simp) (fun w' hw' => (count_any _ _ _ _ _ _ _ (HRL.out.step hw') hn').mono fun e w'' h => ⟨h.1, hw'.trans (h.2.mono hw'.size)⟩) ?_
    (try simp only [Act.put, List.setIfInBounds_toArray, List.set_cons_zero, List.set_cons_succ])
    refine wpQuiet_take (.slice A2 (Bt.all bs true a b).length c2) (by kernel_rfl) (fun w' hw' => ?_) ?_
    · go_simp
    (try simp only [Act.put, List.setIfInBounds_toArray, List.set_cons_zero, List.set_cons_succ])
    refine wpQuiet_take (.int .i64 ((Bt.all bs true a b).length : Int)) (by kernel_rfl) (fun w' hw' => ?_) ?_
    · go_simp
    (try simp only [Act.put, List.setIfInBounds_toArray, List.set_cons_zero, List.set_cons_succ])
    refine wpQuiet_take (.bool true) (by kernel_rfl) (fun w' hw' => ?_) ?_
    · go_simp
    (try simp only [Act.put, List.setIfInBounds_toArray, List.set_cons_zero, List.set_cons_succ])
    refine wpQuiet_take (.bool true) (by kernel_rfl) (fun w' hw' => ?_) ?_
    · go_simp
    (try simp only [Act.put, List.setIfInBounds_toArray, List.set_cons_zero, List.set_cons_succ])
    refine wpQuiet_take (.pointer (some ⟨w.heap.size, 0, none⟩)) (by kernel_rfl) (fun w' hw' => ?_) ?_
    · go_simp
    (try simp only [Act.put, List.setIfInBounds_toArray, List.set_cons_zero, List.set_cons_succ])
    refine wpQuiet_take (.int .i64 a) (by kernel_rfl) (fun w' hw' => ?_) ?_
    · have q := (V.out.step hw').c0; go_simp
    (try simp only [Act.put, List.setIfInBounds_toArray, List.set_cons_zero, List.set_cons_succ])
    refine wpQuiet_take (.pointer (some ⟨w.heap.size, 1, none⟩)) (by kernel_rfl) (fun w' hw' => ?_) ?_
    · go_simp
    (try simp only [Act.put, List.setIfInBounds_toArray, List.set_cons_zero, List.set_cons_succ])
    refine wpQuiet_take (.int .i64 b) (by kernel_rfl) (fun w' hw' => ?_) ?_
    · have q := (V.out.step hw').c1; go_simp
    (try simp only [Act.put, List.setIfInBounds_toArray, List.set_cons_zero, List.set_cons_succ])
    refine wpQuiet_take (.slice A n c) (by kernel_rfl) (fun w' hw' => ?_) ?_
    · go_simp
    (try simp only [Act.put, List.setIfInBounds_toArray, List.set_cons_zero, List.set_cons_succ])
    refine wpQuiet_call 16 #[.int .i64 a, .int .i64 b, .slice A n c] (.int .i64 (Bt.first bs a b)) (by kernel_rfl) (fun w' => by go_simp) (fun w' hw' => (first_any _ _ _ _ _ _ _ (HRL.out.step hw') hn').mono fun e w'' h => ⟨h.1, hw'.trans (h.2.mono hw'.size)⟩) ?_
    (try simp only [Act.put, List.setIfInBounds_toArray, List.set_cons_zero, List.set_cons_succ])
    refine wpQuiet_take (.slice A n c) (by kernel_rfl) (fun w' hw' => ?_) ?_
    · go_simp
    (try simp only [Act.put, List.setIfInBounds_toArray, List.set_cons_zero, List.set_cons_succ])
    refine wpQuiet_take (.pointer (some ⟨w.heap.size, 0, none⟩)) (by kernel_rfl) (fun w' hw' => ?_) ?_
    · go_simp
    (try simp only [Act.put, List.setIfInBounds_toArray, List.set_cons_zero, List.set_cons_succ])
    refine wpQuiet_take (.int .i64 a) (by kernel_rfl) (fun w' hw' => ?_) ?_
    · have q := (V.out.step hw').c0; go_simp
    (try simp only [Act.put, List.setIfInBounds_toArray, List.set_cons_zero, List.set_cons_succ])
    refine wpQuiet_take (.pointer (some ⟨w.heap.size, 1, none⟩)) (by kernel_rfl) (fun w' hw' => ?_) ?_
    · go_simp
    (try simp only [Act.put, List.setIfInBounds_toArray, List.set_cons_zero, List.set_cons_succ])
    refine wpQuiet_take (.int .i64 b) (by kernel_rfl) (fun w' hw' => ?_) ?_
    · have q := (V.out.step hw').c1; go_simp
    (try simp only [Act.put, List.setIfInBounds_toArray, List.set_cons_zero, List.set_cons_succ])
    refine wpQuiet_call 17 #[.slice A n c, .int .i64 a, .int .i64 b] (.int .i64 (Bt.first bs a b)) (by kernel_rfl) (fun w' => by go_simp) (fun w' hw' => (reffirst_any _ _ _ _ _ _ _ (HRL.out.step hw') hn').mono fun e w'' h => ⟨h.1, h.2 ▸ hw'⟩) ?_
    (try simp only [Act.put, List.setIfInBounds_toArray, List.set_cons_zero, List.set_cons_succ])
    refine wpQuiet_take (.bool true) (by kernel_rfl) (fun w' hw' => ?_) ?_
    · go_simp
    (try simp only [Act.put, List.setIfInBounds_toArray, List.set_cons_zero, List.set_cons_succ])
    refine wpQuiet_take (.bool true) (by kernel_rfl) (fun w' hw' => ?_) ?_
    · go_simp
    (try simp only [Act.put, List.setIfInBounds_toArray, List.set_cons_zero, List.set_cons_succ])
    refine wpQuiet_take (.bool true) (by kernel_rfl) (fun w' hw' => ?_) ?_
    · go_simp
    (try simp only [Act.put, List.setIfInBounds_toArray, List.set_cons_zero, List.set_cons_succ])
    refine wpQuiet_nil ?_
    intro w9 hw9
    gi_wp2
    have hK9 := (hw9.block D hKW).trans hK
    have hsz := B3.out.size
    refine ⟨by simp, .inl ⟨_, _, rfl, run_takeDeferred hK9, ?_⟩⟩
    exact ⟨_, results_tmp rfl _ _ _, rfl, (HBW.out.trans (hw9.mono HBW.out.size)).trans (belowK_b (w := w) (Nat.le_refl _) w9 D _ _ (by omega) hK9 rfl rfl)⟩
set_option maxRecDepth 100000 in
set_option maxHeartbeats 1000000 in
theorem walk_many (A : Option Addr) (n c : Nat) (a b stop : Int) (w : World) (hm : n ≤ maxLen) (hn : 4 < n) :
    CallsIn Fence.wide 8 Try.prog 4 #[.slice A n c, .agg #[.int .i64 a, .int .i64 b], .int .i64 stop] w fun e w' => e = .returned (.bool true) ∧ Below w.heap.size w w' := by
  unfold maxLen at hm
  refine callsIn_of_wp_marks Try.func4 rfl trivial ?_ rfl
  simp only [Try.ntmps4, List.size_toArray, List.length_cons, List.length_nil, Nat.reduceAdd, Nat.reduceSub, Array.replicate_succ, Array.replicate_zero, List.push_toArray, List.append_toArray, List.nil_append, List.cons_append]
  gi_wp2_with (refine ⟨trivial, ?_⟩; gi_at_call 6; refine (callsIn_wide.2 (awake_any _)).mono ?_; rintro e w1 ⟨rfl, hb1⟩; have B1 : Hid (Below w.heap.size w w1) := Lib.hid ((((Below.refl _ w).alloc (Nat.le_refl _) _).alloc (by simp) _).trans (hb1.mono (by simp; omega))); clear hb1)
  exact ⟨_, results_tmp rfl _ _ _, rfl, B1.out⟩
theorem cellsR : Try.prog.cellsOf 31 = 2 := by kernel_rfl
theorem cellsI : Try.prog.cellsOf 3 = 1 := by kernel_rfl
theorem open_range {H : Type} {enc : TypeId × Value → H} {W : World} {base : Nat} {v : Value} {d : DataW H} {p : List MemPlace} (hv : Value.okWide Try.prog W .any base 31 v)
    (h : DataW.Trod enc Try.prog W 0 (fun _ => true) true 31 v d p) : ∃ a b : Int, v = .agg #[.int .i64 a, .int .i64 b] := by
  obtain ⟨cs, rfl, hsz⟩ := okWide_struct Try.underlying31 hv
  obtain ⟨fuel, hf⟩ := h
  obtain ⟨y0, y1, n, _, hcl, h0, h1⟩ := trod_struct2 Try.underlying31 hf
  rw [cellsR] at hcl
  obtain ⟨a, e0, _, _⟩ := DataW.trod_int Try.underlying3 h0
  obtain ⟨b, e1, _, _⟩ := DataW.trod_int Try.underlying3 h1
  have hcl' : cs.size = 2 := by simpa [Value.cells] using hcl
  have c0 : ((Value.agg cs).cells.toList.drop 0).take (Try.prog.cellsOf 3) = [.int .i64 a] := e0
  have c1 : ((Value.agg cs).cells.toList.drop 1).take (Try.prog.cellsOf 3) = [.int .i64 b] := e1
  rw [cellsI] at c0 c1
  refine ⟨a, b, ?_⟩
  obtain ⟨l⟩ := cs
  match l, hcl' with
  | [v0, v1], _ =>
    simp [Value.cells] at c0 c1
    subst c0 c1
    rfl
theorem walk (A : Option Addr) (n c : Nat) (bs : List UInt8) (a b stop : Int) (w : World) (h : Row w A n bs) :
    Calls Try.prog 4 #[.slice A n c, .agg #[.int .i64 a, .int .i64 b], .int .i64 stop] w fun e w' => e = .returned (.bool true) ∧ Below w.heap.size w w' := by
  by_cases hn : n ≤ 4
  · exact callsIn_wide.1 (walk_few A n c bs a b stop w h hn)
  · exact callsIn_wide.1 (walk_many A n c a b stop w h.small (by omega))
theorem own : ownKnob Try.prog.godebug = none := by kernel_rfl
theorem laidOut : laidOutB Try.prog = true := by kernel_rfl
set_option maxRecDepth 100000 in
theorem lifted (os : Os) (started : os.Started) (H : Type) (enc : TypeId × Value → H) :
    ReturnsInHanded {} Try.checked os 4 .any (Rows.bitsFoundSpec.pre6 enc Try.prog Try.f4 Rows.bitsFoundRow.domain false) (Rows.bitsFoundSpec.post enc Try.prog Try.f4 false true false false) := by
  refine returnsInHanded_of_change (C := Try.checked) own started (by kernel_rfl) Try.func4
    (ChangeSpec.witness6 (enc := enc) (C := Try.checked) false ⟨#[], #[.slice none 0 0, .agg #[.int .i64 0, .int .i64 0], .int .i64 0], []⟩ 8 (by kernel_rfl) (by kernel_rfl) (by kernel_rfl) (by kernel_rfl)) ?_
  intro W base args ds gs before hval0 hW hcnd _
  have hval : ∀ (j : Nat) t v, Try.f4.params[j]? = some t → args[j]? = some v → Value.okWide Try.prog W .any base t v := hval0
  have hW' := hW
  obtain ⟨p, q, hA0, hV, rfl, hfz, hnd⟩ := hW
  have hA : DataW.TrodAll enc Try.prog W 0 (fun _ => true) true Try.f4.params.toList args.toList ds p := hA0
  rw [Try.params4] at hA hval
  obtain ⟨v0, vs0, d0, ds0, p0, q0, hargs, rfl, rfl, h0, r0⟩ := trodAll_cons hA
  obtain ⟨v1, vs1, d1, ds1, p1, q1, rfl, rfl, rfl, h1, r1⟩ := trodAll_cons r0
  obtain ⟨v2, vs2, d2, ds2, p2, q2, rfl, rfl, rfl, h2, r2⟩ := trodAll_cons r1
  obtain ⟨rfl, rfl, rfl⟩ := trodAll_nil r2
  obtain rfl : args = #[v0, v1, v2] := by cases args; simp_all
  obtain ⟨rfl, rfl⟩ := trodVars_none hV
  have k0 := h0
  have lt0 : ∀ x ∈ p0, x.block < W.heap.size := by obtain ⟨m, hm⟩ := k0; exact DataW.trod_lt m _ _ _ hm
  have k1 := h1
  have lt1 : ∀ x ∈ p1, x.block < W.heap.size := by obtain ⟨m, hm⟩ := k1; exact DataW.trod_lt m _ _ _ hm
  have k2 := h2
  have lt2 : ∀ x ∈ p2, x.block < W.heap.size := by obtain ⟨m, hm⟩ := k2; exact DataW.trod_lt m _ _ _ hm
  obtain ⟨A0, n0, c0, bs0, rfl, w0, _⟩ := open_pages (hval 0 22 v0 rfl rfl) h0
  obtain ⟨x1, y1, rfl⟩ := open_range (hval 1 31 v1 rfl rfl) h1
  obtain ⟨x2, rfl, ed2, ep2, w2⟩ := open_int Try.underlying3 (hval 2 3 v2 rfl rfl) h2
  clear hA0 hval0
  refine (walk A0 n0 c0 bs0 x1 y1 x2 W w0).mono fun e W' ⟨he, bel⟩ => ?_
  subst he
  exact ⟨_, rfl, _, _, _, [], _, [], hW', trodAll_mk1 (shut_bool Try.underlying4 _), (trodAll_cons_mk (Below.trod laidOut (by kernel_rfl) (of_decide_eq_true (by kernel_rfl)) k0 bel lt0) (trodAll_cons_mk (Below.trod laidOut (by kernel_rfl) (of_decide_eq_true (by kernel_rfl)) k1 bel lt1) (trodAll_cons_mk (Below.trod laidOut (by kernel_rfl) (of_decide_eq_true (by kernel_rfl)) k2 bel lt2) trodAll_mk0))), rfl, bel.frame _, fun h => by cases h⟩
theorem over : Rows.bitsFoundRow.holds Try.pinned (OpenSpec.ofChange Rows.bitsFoundSpec) :=
  OpenClaim.holds_of_wide 4 Try.f4 rfl rfl rfl rfl rfl rfl rfl ⟨rfl, rfl, rfl, rfl, rfl⟩ rfl rfl rfl rfl rfl (by kernel_rfl) Try.func4 (by kernel_rfl)
    (of_decide_eq_true (by kernel_rfl)) (by unfold Func.isWrapper; first | (rw [if_pos (by decide +kernel)]; kernel_rfl) | (rw [if_neg (by decide +kernel)]; exact ⟨rfl, rfl⟩))
    (fun os started H enc _ => lifted os started H enc)

/-- THE STATEMENT -/
theorem proved : Rows.BitsFoundSaid := over
#print axioms proved
end Go.Proofs.Ytjjejdjhlnlhiaa.bitsFound
