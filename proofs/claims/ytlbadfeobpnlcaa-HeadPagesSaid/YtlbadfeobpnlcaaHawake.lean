/-
  Heads held against each other; the contract of awake: the document's example, and a head that is Live.
-/
import Derived.Test.YtlbadfeobpnlcaaHdec
namespace Go.Proofs.Ytlbadfeobpnlcaa
open Go.RowKit
open Hd (Head rightB pageH)

theorem head_eq (g h : Head) : decide (g = h) = (g.seq == h.seq && (g.live == h.live && (g.count == h.count && g.sum == h.sum))) := by
  obtain ⟨a, b, c, d⟩ := g
  obtain ⟨a', b', c', d'⟩ := h
  rw [Bool.eq_iff_iff]
  simp [Head.mk.injEq]
theorem run_eql_head (w : World) (g h : Head) : (binOp .eql 24 (headV g) (headV h)).run Try.prog w = .ok (.bool (decide (g = h))) w := by
  rw [head_eq]
  unfold headV
  go_simp
  by_cases h1 : g.seq = h.seq <;> by_cases h2 : g.live = h.live <;> by_cases h3 : g.count = h.count <;> by_cases h4 : g.sum = h.sum <;> simp [h1, h2, h3, h4]
theorem run_eql_ref (w : World) (g h : Head) : (binOp .eql 26 (headV g) (headV h)).run Try.prog w = .ok (.bool (decide (g = h))) w := by
  rw [head_eq]
  unfold headV
  go_simp
  by_cases h1 : g.seq = h.seq <;> by_cases h2 : g.live = h.live <;> by_cases h3 : g.count = h.count <;> by_cases h4 : g.sum = h.sum <;> simp [h1, h2, h3, h4]
theorem run_eqGuard_head (w : World) (x y : Operand) (g h : Head) : (eqGuard .eql 24 x y (headV g) (headV h)).run Try.prog w = .ok () w :=
  run_eqGuard_agg w .eql 24 x y _ _ (by kernel_rfl)
theorem run_eqGuard_ref (w : World) (x y : Operand) (g h : Head) : (eqGuard .eql 26 x y (headV g) (headV h)).run Try.prog w = .ok () w :=
  run_eqGuard_agg w .eql 26 x y _ _ (by kernel_rfl)

theorem wpList_loadg_head {t : TypeId} (ht : HeadT t) {ops : Array Oper} {rest : List Oper} {op : Oper} {a : Act} {Q : Exit → Act → World → Prop} {w : World} {b : Nat} {h : Head} (k : HeadAt w b h) (x : Operand) (ho : op.op = .load t x)
    (hx : a.eval x = .pointer (some ⟨b, 0, none⟩)) (hw : Region.wanted op (yielded ops a.tmps) = true) (hn : wpList Try.prog ops Q rest (a.put op.dst (headV h)) w) : wpList Try.prog ops Q (op :: rest) a w := by
  obtain ⟨d, hd, hr⟩ := ht.row
  exact BigFrame.wpList_want hw fun _ hK => wp_load_mid t x ho b 0 hx (headVals h) d k.range hd hr ht.info (hK _ _ hn)

def exampleH : Head := ⟨258, true, 3, 7⟩
theorem example_right : rightB exampleH = true := by decide
theorem zeros_whole : Hd.wholeB zeros = true := by decide
theorem zeros_read : Hd.readH zeros = Hd.zero := by decide
theorem example_at : (pageH exampleH).getD 2 0 = 1 ∧ (pageH exampleH).getD 63 0 = 2 ∧ (pageH exampleH).getD 4 0 = 1 := by decide
theorem example_cells {w : World} {b : Nat} (h : PageAt w b (pageH exampleH)) : w.cell? ⟨b, 2, none⟩ = some (.int .u8 1) ∧ w.cell? ⟨b, 63, none⟩ = some (.int .u8 2) ∧ w.cell? ⟨b, 4, none⟩ = some (.int .u8 1) := by
  obtain ⟨e1, e2, e3⟩ := example_at
  refine ⟨?_, ?_, ?_⟩
  · rw [h.cell 2 (by omega), e1]; rfl
  · rw [h.cell 63 (by omega), e2]; rfl
  · rw [h.cell 4 (by omega), e3]; rfl

set_option maxHeartbeats 1000000 in
set_option maxRecDepth 100000 in
theorem awake_any (w : World) :
    Calls Try.prog 7 #[] w fun e w' => e = .returned (.bool true) ∧ Below w.heap.size w w' := by
  have HD : Hid (∀ w, Calls Try.prog 11 #[.agg zeroCells] w fun e w' => e = .returned (.tuple #[headV Hd.zero, .bool true]) ∧ Below w.heap.size w w') := Lib.hid (fun w => by
    have := decode_yes zeros w zeros_length zeros_whole
    rw [zeros_read] at this
    exact this)
  have HE : Hid (∀ w, Calls Try.prog 8 #[.agg #[.int .i64 258, .bool true, .int .i64 3, .int .u32 7]] w fun e w' => e = .returned (.tuple #[pageV (pageH exampleH), .int .i64 0]) ∧ Below w.heap.size w w') := Lib.hid (fun w => encode_yes exampleH w example_right (by decide) (by decide))
  have HL := Lib.hid (Hd.pageH_length exampleH)
  have HC := Lib.hid (fun (w : World) (b : Nat) (h : PageAt w b (pageH exampleH)) => example_cells h)
  have E1 : ∀ (x y : Operand) (w : World), (eqGuard .eql 24 x y (headV Hd.zero) (.agg #[.int .i64 0, .bool false, .int .i64 0, .int .u32 0])).run Try.prog w = .ok () w := fun x y w => run_eqGuard_head w x y Hd.zero Hd.zero
  have E2 : ∀ (w : World), (binOp .eql 24 (headV Hd.zero) (.agg #[.int .i64 0, .bool false, .int .i64 0, .int .u32 0])).run Try.prog w = .ok (.bool true) w := fun w => by
    have := run_eql_head w Hd.zero Hd.zero
    rw [decide_eq_true rfl] at this
    exact this
  generalize pageH exampleH = q at HE HL HC
  go_enter Try.func7, Try.ntmps7
  go_wp2_with fail
  rw [← zeroCells_def]
  refine (HD.out _).mono ?_
  rintro e w1 ⟨rfl, hb1⟩
  generalize zeroCells = Z0
  go_wp2_with ((with_reducible refine wpList_store_newhead headT (h := Hd.zero) rfl (.tmp 1) (.tmp 8) rfl rfl ?_ ?_ ?_); (exact rfl); (exact rfl); intro W2 hH hB2 hz2)
  refine (HE.out _).mono ?_
  rintro e w3 ⟨rfl, hb3⟩
  have H3 := Lib.hid (hH.below hb3 hH.lt)
  have B3 := Lib.hid ((hb1.trans (hB2.mono hb1.size)).trans (hb3.mono (Nat.le_trans hb1.size hB2.size)))
  clear hH hB2 hb1 hb3 hz2
  go_wp2_with (first
    | ((with_reducible refine wpList_store_new rfl (.tmp 3) (.tmp 13) rfl rfl ?_ ?_ HL.out ?_); (exact rfl); (exact rfl); intro W4 hP hB4 hz4; have H4 := Lib.hid (H3.out.below hB4 H3.out.lt); obtain ⟨c1, c2, c3⟩ := HC.out W4 _ hP)
    | ((with_reducible refine wpList_loadg_head headT H4.out (.tmp 1) rfl rfl (by kernel_rfl) ?_)))
  go_ret
  exact ⟨rfl, B3.out.trans (hB4.mono B3.out.size)⟩
end Go.Proofs.Ytlbadfeobpnlcaa
