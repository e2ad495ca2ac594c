/-
  The contract of the statement's awake.
-/
import Derived.Test.YtlamllnflbdcjaaJall
namespace Go.Proofs.Ytlamllnflbdcjaa
open Go.RowKit
open Dk (zeros zeros_length)
open Hd (Head rightB pageH)
open Jn (Chg quietH liveH Cl Quiet LiveD May Same upd)

theorem wpList_buildG {ops : Array Oper} {rest : List Oper} {o : Oper} {a : Act} {w : World} {Q : Exit → Act → World → Prop} (t : TypeId) (parts : Array (Nat × Operand)) (cells : Array Value) (d : Option Tmp) (ho : o.op = .build t parts) (hd : o.dst = d) (hw : Region.wanted o (yielded ops a.tmps) = true) (hf : Try.prog.built t (parts.map fun (i, x) => (i, a.eval x)).toList = some cells)
    (h : wpList Try.prog ops Q rest (a.put d (.agg cells)) w) : wpList Try.prog ops Q (o :: rest) a w :=
  BigFrame.wpList_want hw fun _ hK => wp_build t parts ho (by rw [hf]; rfl) (by
    rw [hf]
    subst hd
    exact hK _ _ h)
/-- the page that begins with 1 -/
def pg1 : List UInt8 := 1 :: List.replicate 63 0
theorem pg1_length : pg1.length = 64 := by unfold pg1; simp
theorem built_pg1 : Try.prog.built 31 [(0, .int .u8 1)] = some (byteVals pg1).toArray := by kernel_rfl
theorem chg_type : ∃ i z, Try.prog.info? 46 = some i ∧ i.zero = some z ∧ i.size = 65 := by
  obtain ⟨i, hi, hz, hs, _⟩ := info_parts info_chg
  exact ⟨i, _, hi, hz, hs⟩
theorem run_buildChg1 (w : World) (c : Chg) (hp : c.page.length = 64) : (Instr.buildSlice 22 1 #[(0, chgV c)]).run Try.prog w = .ok (.slice (some ⟨w.heap.size, 0, none⟩) 1 1) (w.alloc (.cells (chgVals c).toArray 46)) := by
  obtain ⟨i, z, hi, hz, hs⟩ := chg_type
  refine run_buildSlice w 22 46 1 #[(0, chgV c)] _ i z Try.underlying22 hi hz (by rw [hs]; omega) (by rw [hs]; omega) ?_
  rw [hs]
  have h := Great.fill_whole (s := 65) (by omega) [chgV c] ((Array.range (1 * 65)).map (z.cells[· % z.cells.size]!)) (fun v hv => by
    rw [List.mem_singleton] at hv
    rw [hv]
    show (chgVals c).toArray.size = 65
    rw [List.size_toArray, chgVals_length hp]) (by simp)
  refine h.trans ?_
  simp [chgV, Value.cells]
theorem wpList_buildChg1 {ops : Array Oper} {rest : List Oper} {o : Oper} {a : Act} {w : World} {Q : Exit → Act → World → Prop} (c : Chg) (hp : c.page.length = 64) (x : Operand) (ho : o.op = .buildSlice 22 1 #[(0, x)]) (hw : Region.wanted o (yielded ops a.tmps) = true) (hx : a.eval x = chgV c)
    (h : wpList Try.prog ops Q rest (a.put o.dst (.slice (some ⟨w.heap.size, 0, none⟩) 1 1)) (w.alloc (.cells (chgVals c).toArray 46))) : wpList Try.prog ops Q (o :: rest) a w :=
  BigFrame.wpList_want hw fun _ hK => by
    have hr := run_buildChg1 w c hp
    unfold Oper.wp execOp
    simp only [ho, List.map_toArray, List.map_cons, List.map_nil, hx, Sem.run_bind, hr, Result.andThen_ok]
    exact hK _ _ h
theorem chAt_one (w : World) (c : Chg) (t : TypeId) (L : List Nat) (hL : ∀ x ∈ L, x < w.heap.size) : ChAt (w.alloc (.cells (chgVals c).toArray t)) (some ⟨w.heap.size, 0, none⟩) L [c] := fun _ =>
  ⟨w.heap.size, 0, rfl, by simp, fun e => by have := hL _ e; omega, fun i x hx => by
    match i, hx with
    | 0, hx =>
      injection hx with hx
      subst hx
      exact (rowAt_new w _ t).range⟩
/-- the change that is made -/
def c71 : Chg := ⟨7, pg1⟩
theorem c71_length : c71.page.length = 64 := pg1_length
theorem takes_71 : takesB 9 1 4 [c71] = true := by decide
/-- what awake's Commit does -/
theorem awake_commit {w : World} {j d l m : Nat} {s : Dk.St} (hj : JAt w j d 1 4 1 false) (h : DiskAt w d l m s) (hjd : j ∉ [d, l, m]) (hc : Cl s) (hlim : s.lim = false) (hlen : s.last.length = 9) (hhead : s.last.getD 1 [] = pageH (quietH 1)) (A : Option Addr) (hrow : ChAt w A [d, l, m, j] [c71]) :
    Calls Try.prog 8 #[.pointer (some ⟨j, 0, none⟩), .slice A 1 1] w fun e w' => e = .returned (.int .i64 0) ∧ ∃ s', DiskAt w' d l m s' ∧ Dk.readP s' 7 = pg1 ∧ (∃ q', JAt w' j d 1 4 q' false) ∧ Only [d, l, m, j] w w' := by
  have ho := outer_any hj h hjd (by omega) (by omega) room4 (by omega) (by omega) (by omega) A 1 hrow (fun x hx => by rw [List.mem_singleton] at hx; rw [hx]; exact pg1_length) (by simp) (by omega) (by omega)
  refine ho.mono ?_
  rintro e w' hC
  rcases hC with ⟨ht, _⟩ | ⟨hk, _⟩ | ⟨hk, _⟩ | ⟨hm, he, hd, ⟨q', hj', _⟩, hO⟩
  · rw [hlen, takes_71] at ht; cases ht
  · simp at hk
  · cases hk
  · have hm' : May 1 4 s.last.length [c71] := hm
    rcases Jn.commitM hc hm' (by omega) (by omega) hhead with ⟨e1, e2, e3, _, _⟩ | ⟨_, e1, _⟩
    · rw [e1] at he hj'
      refine ⟨he, _, hd, ?_, ⟨q', hj'⟩, hO⟩
      have hlen' : (Jn.runs s (Jn.steps 1 1 [c71])).1.last.length = 9 := by rw [e3.len, Jn.upd_length, hlen]
      have := read_clean e2 (i := 7) (by omega)
      refine this.trans ?_
      rw [e3.same 7 (by omega)]
      show (s.last.set 7 pg1).getD 7 [] = pg1
      rw [List.getD_eq_getElem?_getD, List.getElem?_set_self (by omega)]; rfl
    · rw [hlim] at e1; cases e1

set_option maxRecDepth 100000 in
set_option maxHeartbeats 4000000 in
theorem awake_any (w : World) : Calls Try.prog 4 #[] w fun e w' => e = .returned (.bool true) ∧ Below w.heap.size w w' := by
  have HNW : Hid (Calls Try.prog 6 #[.int .i64 9] w fun e w' => e = .returned (.tuple #[.pointer (some ⟨w.heap.size + 2, 0, none⟩), .int .i64 0]) ∧ w' = newWorld w 9) := Lib.hid (new_any 9 w (by omega) (by omega))
  have hB0 := newWorld_below w 9
  obtain ⟨s, hc, hlim, hlen, hhead, hop⟩ := first_open (newWorld_disk w 9 (by omega) (by omega)) (by omega) (by omega) (show 0 < 4 by omega) room4 (by omega) (show 1 + 4 ≤ 9 by omega)
  have HOP : Hid (Calls Try.prog 7 #[.pointer (some ⟨w.heap.size + 2, 0, none⟩), .int .i64 1, .int .i64 4] (newWorld w 9) fun e w' =>
      ∃ j, e = .returned (.tuple #[.pointer (some ⟨j, 0, none⟩), .int .i64 0, .int .i64 0]) ∧ DiskAt w' (w.heap.size + 2) w.heap.size (w.heap.size + 1) s ∧ JAt w' j (w.heap.size + 2) 1 4 1 false ∧ (newWorld w 9).heap.size ≤ j ∧ Only [w.heap.size + 2, w.heap.size, w.heap.size + 1] (newWorld w 9) w') := Lib.hid hop
  have HB0 := Lib.hid hB0
  have HNS := Lib.hid (newWorld_size w 9)
  clear hop hB0
  go_enter Try.func4, Try.ntmps4
  go_wp2_with fail
  refine HNW.out.mono ?_
  rintro e w1 ⟨rfl, rfl⟩
  clear HNW
  go_wp2_with fail
  refine HOP.out.mono ?_
  rintro e w2 ⟨j, rfl, hd2, hj2, hjn, ho2⟩
  have HJN : Hid (w.heap.size + 3 ≤ j) := Lib.hid (by have := HNS.out; omega)
  have HB2 : Hid (Below w.heap.size w w2) := Lib.hid (Only.toBelowOld HB0.out ho2 HB0.out.size (by simp))
  have HJD : Hid (j ∉ [w.heap.size + 2, w.heap.size, w.heap.size + 1]) := Lib.hid (by have := HJN.out; simp; omega)
  have HD2 := Lib.hid hd2
  have HJ2 := Lib.hid hj2
  clear hd2 hj2 hjn ho2 HOP HB0 HNS
  have HFR : Hid (∀ x ∈ [w.heap.size + 2, w.heap.size, w.heap.size + 1, j], w.heap.size ≤ x) := Lib.hid (by have := HJN.out; simp; omega)
  generalize w.heap.size + 2 = d at HD2 HJ2 HJD HFR ⊢
  generalize w.heap.size + 1 = m at HD2 HJD HFR
  generalize hl : w.heap.size = l at HD2 HJD HFR
  replace HFR : Hid (∀ x ∈ [d, l, m, j], w.heap.size ≤ x) := Lib.hid (by rw [hl]; exact HFR.out)
  have HL : Hid (w.heap.size ≤ l) := Lib.hid (by omega)
  clear hl
  go_wp2_with (first
    | ((with_reducible refine wpList_buildG 31 #[(0, .const (.int .u8 1))] (byteVals pg1).toArray (some 30) rfl rfl ?_ ?_ ?_); (exact rfl); (simp only [List.map_toArray, List.map_cons, List.map_nil]; exact built_pg1); (rw [pageV_def]))
    | ((with_reducible refine wpList_buildG 46 #[(0, .const (.int .i64 7)), (1, .tmp 30)] (chgVals c71).toArray (some 31) rfl rfl ?_ ?_ ?_); (exact rfl); (simp only [List.map_toArray, List.map_cons, List.map_nil]; exact built_chg 7 pg1 pg1_length); (change wpList _ _ _ _ (Act.put _ _ (chgV c71)) _))
    | ((with_reducible refine wpList_buildChg1 c71 c71_length (.tmp 31) rfl ?_ ?_ ?_); (exact rfl); (exact rfl)))
  have HD3 := Lib.hid (HD2.out.alloc (.cells (chgVals c71).toArray 46))
  have HJ3 := Lib.hid (HJ2.out.below (w' := w2.alloc (.cells (chgVals c71).toArray 46)) ((Below.refl _ _).alloc (Nat.le_refl _) _))
  have HB3 : Hid (Below w.heap.size w (w2.alloc (.cells (chgVals c71).toArray 46))) := Lib.hid (HB2.out.alloc HB2.out.size _)
  have HR3 := Lib.hid (chAt_one w2 c71 46 [d, l, m, j] (by have := HD2.out.dlt; have := HD2.out.llt; have := HD2.out.mlt; have := HJ2.out.lt; simp; omega))
  clear HD2 HJ2 HB2
  generalize w2.alloc (.cells (chgVals c71).toArray 46) = w3 at HD3 HJ3 HB3 HR3 ⊢
  refine (awake_commit HJ3.out HD3.out HJD.out hc hlim hlen hhead _ HR3.out).mono ?_
  rintro e w4 ⟨rfl, s4, hd4, hrd, ⟨q4, hj4⟩, ho4⟩
  have HD4 := Lib.hid hd4
  have HJ4 := Lib.hid hj4
  have HB4 : Hid (Below w.heap.size w w4) := Lib.hid (Only.toBelowOld HB3.out ho4 HB3.out.size HFR.out)
  have HRD : Hid (∃ E, Calls Try.prog 12 #[.pointer (some ⟨d, 0, none⟩), .int .i64 7] w4 fun e w' => e = .returned (.tuple #[pageV pg1, .int .i64 E]) ∧ Below w4.heap.size w4 w') := Lib.hid (by
    have := read_any hd4 7
    rw [hrd] at this
    exact ⟨_, this⟩)
  clear hd4 hrd hj4 ho4 HD3 HJ3 HB3 HR3 hc hlim hlen hhead
  obtain ⟨E, hrd⟩ := HRD.out
  have HR4 := Lib.hid hrd
  clear hrd HRD
  go_wp2_with fail
  refine HR4.out.mono ?_
  rintro e w5 ⟨rfl, hB5⟩
  have HJ5 := Lib.hid (HJ4.out.below hB5)
  have HB5 : Hid (Below w.heap.size w w5) := Lib.hid (HB4.out.trans (hB5.mono HB4.out.size))
  clear HR4 HD4 HJ4 HB4 hB5
  have HR3 : Hid (∀ w, Calls Try.prog 13 #[.int .i64 3] w fun e w' => e = .returned (.int .i64 1) ∧ w = w') := Lib.hid room3
  have HR40 : Hid (∀ w, Calls Try.prog 13 #[.int .i64 40] w fun e w' => e = .returned (.int .i64 37) ∧ w = w') := Lib.hid room40
  have HR2 : Hid (∀ w, Calls Try.prog 13 #[.int .i64 2] w fun e w' => e = .returned (.int .i64 0) ∧ w = w') := Lib.hid room2
  have HC0 : Hid (pg1.getD 0 0 = 1) := Lib.hid rfl
  go_wp2_with ((with_reducible refine wpList_store_new rfl (.tmp 6) (.tmp 39) rfl rfl ?_ ?_ pg1_length ?_); (exact rfl); (exact rfl); intro w6 hP hB6 hz6; have HJ6 := Lib.hid (HJ5.out.below hB6); have HB6 := Lib.hid (HB5.out.trans (hB6.mono HB5.out.size)); have c0 := hP.cell 0 (by omega); rw [HC0.out] at c0; clear hP hB6 hz6 HJ5 HB5; generalize w5.heap.size = C at c0 ⊢)
  refine (HR3.out _).mono ?_
  rintro e w' ⟨rfl, rfl⟩
  go_wp2_with fail
  refine (HR40.out _).mono ?_
  rintro e w' ⟨rfl, rfl⟩
  go_wp2_with fail
  refine (HR2.out _).mono ?_
  rintro e w' ⟨rfl, rfl⟩
  go_wp2_with fail
  refine (mroom_any HJ6.out room4).mono ?_
  rintro e w' ⟨rfl, rfl⟩
  go_wp2_with fail
  go_ret
  exact ⟨rfl, HB6.out⟩
end Go.Proofs.Ytlamllnflbdcjaa
