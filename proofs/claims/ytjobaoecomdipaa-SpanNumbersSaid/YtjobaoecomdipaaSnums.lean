/-
  Proved: SpanNumbers returns true for all pages, places and numbers: the numbers of any page are read and set as the document says.
  Conditions: none beside the statement's own.
-/
import Derived.Test.YtjobaoecomdipaaSawake
import Derived.Test.YtjobaoecomdipaaSnum
namespace Go.Proofs.Ytjobaoecomdipaa.spanNumbers
open Go.ChangeShapes Go.WideShapes Go.ChangeAt Go.RowKit

/-- what stands in memory: the page -/
structure NpS (w0 : World) (p : List UInt8) (D : Nat) (W : World) : Prop where
  page : PageAt W D p
  below : Below w0.heap.size w0 W
theorem NpS.call {w0 : World} {p : List UInt8} {D : Nat} {W W' : World} (k : NpS w0 p D W) (hb : Below W.heap.size W W') : NpS w0 p D W' := ⟨k.page.step hb, k.below.trans (hb.mono k.below.size)⟩
/-- the same, and the row of its numbers -/
structure NnS (w0 : World) (p : List UInt8) (D : Nat) (B : Nat) (zs : List Int) (W : World) : Prop where
  base : NpS w0 p D W
  row : IntRow W (some ⟨B, 0, none⟩) 32 zs
theorem NnS.call {w0 : World} {p : List UInt8} {D B : Nat} {zs : List Int} {W W' : World} (k : NnS w0 p D B zs W) (hb : Below W.heap.size W W') : NnS w0 p D B zs W' := ⟨k.base.call hb, k.row.step hb⟩
theorem NnS.cell {w0 : World} {p : List UInt8} {D B : Nat} {W : World} (k : NnS w0 p D B (numsUpto p 32) W) (j : Nat) (hj : j < 32) : W.cell? ⟨B, j, none⟩ = some (.int .i64 (numN p (j : Int))) := by
  obtain ⟨b, off, e, _, hc⟩ := k.row.cells (by omega)
  injection e with e
  injection e with e1 e2
  subst e1; subst e2
  have := hc j _ (numsUpto_at p 32 j hj)
  rwa [Nat.zero_add] at this
theorem numN_in (p : List UInt8) (i : Int) (h0 : 0 ≤ i) (h1 : i < 32) : numN p i = Pg.getN p (2 * i) 2 := by unfold numN; rw [if_pos ⟨h0, h1⟩]
theorem setNum_in (p : List UInt8) (i n : Int) (h0 : 0 ≤ i) (h1 : i < 32) : setNum p i n = Pg.setN p (2 * i) 2 n := by unfold setNum; rw [if_pos ⟨h0, h1⟩]
set_option maxRecDepth 100000 in
set_option maxHeartbeats 4000000 in
theorem walk_far (p : List UInt8) (i n : Int) (w : World) (hp : p.length = 64) (hi : i < 0 ∨ 31 < i) :
    Calls Try.prog 6 #[pageV p, .int .i64 i, .int .i64 n] w fun e w' => e = .returned (.bool true) ∧ Below w.heap.size w w' := by
  have HN := Lib.hid (fun w => numbers_any p w hp)
  have HK : Hid (∀ (k : Nat), k < 32 → ∀ w, Calls Try.prog 16 #[pageV p, .int .i64 (2 * (k : Int)), .int .i64 2] w fun e w' => e = .returned (.int .i64 (numN p (k : Int))) ∧ Below w.heap.size w w') := Lib.hid (fun k hk w => by
    have := refGet_any p (2 * (k : Int)) 2 w hp
    rw [numN_in p (k : Int) (by omega) (by omega)]
    exact this)
  have HL : Hid (∀ (k : Nat) w, Calls Try.prog 17 #[pageV p, .int .i64 (k : Int)] w fun e w' => e = .returned (.int .i64 (numN p (k : Int))) ∧ Below w.heap.size w w') := Lib.hid (fun k w => number_any p (k : Int) w hp)
  have HX : Hid (∀ w, Calls Try.prog 17 #[pageV p, .int .i64 i] w fun e w' => e = .returned (.int .i64 0) ∧ Below w.heap.size w w') := Lib.hid (fun w => by
    have := number_any p i w hp
    unfold numN at this
    rw [if_neg (by omega)] at this
    exact this)
  have HY : Hid (∀ w, Calls Try.prog 18 #[pageV p, .int .i64 i, .int .i64 n] w fun e w' => e = .returned (pageV p) ∧ Below w.heap.size w w') := Lib.hid (fun w => by
    have := setNumber_any p i n w hp
    unfold setNum at this
    rw [if_neg (by omega)] at this
    exact this)
  have HI := Lib.hid hi; clear hi
  have E1 := fun (a b : Operand) (w : World) => run_eqGuard_page w a b p p
  have E2 := fun (w : World) => run_eql_same w p hp
  have S0 : Hid (NpS w p w.heap.size (w.alloc (.cells (byteVals p).toArray 39))) := Lib.hid ⟨pageAt_new w p 39 hp, (Below.refl _ _).alloc (Nat.le_refl _) _⟩
  clear hp
  unfold pageV
  go_enter Try.func6, Try.ntmps6
  go_wp2_with fail
  generalize w.alloc (.cells (byteVals p).toArray 39) = w0 at S0 ⊢
  generalize w.heap.size = D at S0 ⊢
  refine (awake_any _).mono ?_
  rintro e w1 ⟨rfl, hb⟩
  replace S0 := Lib.hid (S0.out.call hb)
  clear hb
  go_wp2_with (first
    | (with_reducible refine wpList_load_page S0.out.page rfl (.tmp 3) rfl rfl ?_)
    | (go_at_call 15; (with_reducible refine (HN.out _).mono ?_); rintro e w2 ⟨B, rfl, hr, hb⟩; have S1 : Hid (NnS w p D B (numsUpto p 32) w2) := Lib.hid ⟨S0.out.call hb, hr⟩; clear hb hr S0))
  go_loopw [18] (fun i wr => ∃ k : Nat, k ≤ 32 ∧ i = .int .i64 (k : Int) ∧ NnS w p D B (numsUpto p 32) wr) (fun i _ => 32 - (intOf i).toNat)
  case atStart => exact ⟨0, Nat.zero_le _, rfl, S1.out⟩
  case round =>
    obtain ⟨k, hk, rfl, hS⟩ := hrel
    have S := Lib.hid hS
    clear hS S1
    by_cases hlt : k < 32
    · have HC : Hid (∀ W, NnS w p D B (numsUpto p 32) W → W.cell? ⟨B, k, none⟩ = some (.int .i64 (numN p (k : Int)))) := Lib.hid (fun W h => h.cell k hlt)
      have HK' := Lib.hid (HK.out k hlt)
      have HL' := Lib.hid (HL.out k)
      have w1 : IntKind.i64.wrap (2 * (k : Int)) = 2 * (k : Int) := IntWalk.i64_in _ (by omega)
      generalize numN p (k : Int) = x at HC HK' HL'
      go_wp2_with fail
      refine wp_region_class (C := fun w' => Below wr.heap.size wr w') (by kernel_rfl) ⟨rfl, rfl, rfl, Nat.le_refl _, fun _ _ => rfl⟩ ?_
      refine wpQuiet_take (.slice (some ⟨B, 0, none⟩) 32 32) (by kernel_rfl) (fun w' hw' => ?_) ?_
      · go_simp
      (try simp only [Act.put, List.setIfInBounds_toArray, List.set_cons_zero, List.set_cons_succ])
      refine wpQuiet_take (.int .i64 (k : Int)) (by kernel_rfl) (fun w' hw' => ?_) ?_
      · go_simp
      (try simp only [Act.put, List.setIfInBounds_toArray, List.set_cons_zero, List.set_cons_succ])
      refine wpQuiet_take (.pointer (some ⟨B, k, none⟩)) (by kernel_rfl) (fun w' hw' => ?_) ?_
      · go_simp
      (try simp only [Act.put, List.setIfInBounds_toArray, List.set_cons_zero, List.set_cons_succ])
      refine wpQuiet_take (.int .i64 x) (by kernel_rfl) (fun w' hw' => ?_) ?_
      · (have hc := HC.out _ (S.out.call hw'); go_simp)
      (try simp only [Act.put, List.setIfInBounds_toArray, List.set_cons_zero, List.set_cons_succ])
      refine wpQuiet_page (p := p) (.tmp 3) rfl rfl (by kernel_rfl) (fun w' hw' => (S.out.call hw').base.page) ?_
      (try simp only [Act.put, List.setIfInBounds_toArray, List.set_cons_zero, List.set_cons_succ])
      refine wpQuiet_take (.int .i64 (k : Int)) (by kernel_rfl) (fun w' hw' => ?_) ?_
      · go_simp
      (try simp only [Act.put, List.setIfInBounds_toArray, List.set_cons_zero, List.set_cons_succ])
      refine wpQuiet_take (.int .i64 (2 * (k : Int))) (by kernel_rfl) (fun w' hw' => ?_) ?_
      · go_simp
      (try simp only [Act.put, List.setIfInBounds_toArray, List.set_cons_zero, List.set_cons_succ])
      refine wpQuiet_call 16 #[pageV p, .int .i64 (2 * (k : Int)), .int .i64 2] (.int .i64 x) (by kernel_rfl) (fun w' => by (go_simp) <;> rfl) (fun w' hw' => (HK'.out w').mono fun e w'' h => ⟨h.1, hw'.trans (h.2.mono hw'.size)⟩) ?_
      (try simp only [Act.put, List.setIfInBounds_toArray, List.set_cons_zero, List.set_cons_succ])
      refine wpQuiet_take (.bool false) (by kernel_rfl) (fun w' hw' => ?_) ?_
      · go_simp
      (try simp only [Act.put, List.setIfInBounds_toArray, List.set_cons_zero, List.set_cons_succ])
      refine wpQuiet_take (.bool false) (by kernel_rfl) (fun w' hw' => ?_) ?_
      · go_simp
      (try simp only [Act.put, List.setIfInBounds_toArray, List.set_cons_zero, List.set_cons_succ])
      refine wpQuiet_take (.slice (some ⟨B, 0, none⟩) 32 32) (by kernel_rfl) (fun w' hw' => ?_) ?_
      · go_simp
      (try simp only [Act.put, List.setIfInBounds_toArray, List.set_cons_zero, List.set_cons_succ])
      refine wpQuiet_take (.int .i64 (k : Int)) (by kernel_rfl) (fun w' hw' => ?_) ?_
      · go_simp
      (try simp only [Act.put, List.setIfInBounds_toArray, List.set_cons_zero, List.set_cons_succ])
      refine wpQuiet_take (.pointer (some ⟨B, k, none⟩)) (by kernel_rfl) (fun w' hw' => ?_) ?_
      · go_simp
      (try simp only [Act.put, List.setIfInBounds_toArray, List.set_cons_zero, List.set_cons_succ])
      refine wpQuiet_take (.int .i64 x) (by kernel_rfl) (fun w' hw' => ?_) ?_
      · (have hc := HC.out _ (S.out.call hw'); go_simp)
      (try simp only [Act.put, List.setIfInBounds_toArray, List.set_cons_zero, List.set_cons_succ])
      refine wpQuiet_page (p := p) (.tmp 3) rfl rfl (by kernel_rfl) (fun w' hw' => (S.out.call hw').base.page) ?_
      (try simp only [Act.put, List.setIfInBounds_toArray, List.set_cons_zero, List.set_cons_succ])
      refine wpQuiet_take (.int .i64 (k : Int)) (by kernel_rfl) (fun w' hw' => ?_) ?_
      · go_simp
      (try simp only [Act.put, List.setIfInBounds_toArray, List.set_cons_zero, List.set_cons_succ])
      refine wpQuiet_call 17 #[pageV p, .int .i64 (k : Int)] (.int .i64 x) (by kernel_rfl) (fun w' => by (go_simp) <;> rfl) (fun w' hw' => (HL'.out w').mono fun e w'' h => ⟨h.1, hw'.trans (h.2.mono hw'.size)⟩) ?_
      (try simp only [Act.put, List.setIfInBounds_toArray, List.set_cons_zero, List.set_cons_succ])
      refine wpQuiet_take (.bool false) (by kernel_rfl) (fun w' hw' => ?_) ?_
      · go_simp
      (try simp only [Act.put, List.setIfInBounds_toArray, List.set_cons_zero, List.set_cons_succ])
      refine wpQuiet_take (.bool false) (by kernel_rfl) (fun w' hw' => ?_) ?_
      · go_simp
      (try simp only [Act.put, List.setIfInBounds_toArray, List.set_cons_zero, List.set_cons_succ])
      refine wpQuiet_nil ?_
      intro w3 hw3
      replace S := Lib.hid (S.out.call hw3)
      clear HK' HL' HC w1
      go_wp2_with fail
      go_roundw
      case rel => exact ⟨k + 1, by omega, by go_num, S.out⟩
      case measure => simp [intOf]; omega
    · rcases HI.out with hi | hi
      all_goals
        go_wp2_with fail
        refine wp_region_class (C := fun w' => Below wr.heap.size wr w') (by kernel_rfl) ⟨rfl, rfl, rfl, Nat.le_refl _, fun _ _ => rfl⟩ ?_
        refine wpQuiet_page (p := p) (.tmp 3) rfl rfl (by kernel_rfl) (fun w' hw' => (S.out.call hw').base.page) ?_
        (try simp only [Act.put, List.setIfInBounds_toArray, List.set_cons_zero, List.set_cons_succ])
        refine wpQuiet_take (.int .i64 i) (by kernel_rfl) (fun w' hw' => ?_) ?_
        · go_simp
        (try simp only [Act.put, List.setIfInBounds_toArray, List.set_cons_zero, List.set_cons_succ])
        refine wpQuiet_call 17 #[pageV p, .int .i64 i] (.int .i64 0) (by kernel_rfl) (fun w' => by (go_simp) <;> rfl) (fun w' hw' => (HX.out w').mono fun e w'' h => ⟨h.1, hw'.trans (h.2.mono hw'.size)⟩) ?_
        (try simp only [Act.put, List.setIfInBounds_toArray, List.set_cons_zero, List.set_cons_succ])
        refine wpQuiet_take (.bool true) (by kernel_rfl) (fun w' hw' => ?_) ?_
        · go_simp
        (try simp only [Act.put, List.setIfInBounds_toArray, List.set_cons_zero, List.set_cons_succ])
        refine wpQuiet_take (.bool true) (by kernel_rfl) (fun w' hw' => ?_) ?_
        · go_simp
        (try simp only [Act.put, List.setIfInBounds_toArray, List.set_cons_zero, List.set_cons_succ])
        refine wpQuiet_page (p := p) (.tmp 3) rfl rfl (by kernel_rfl) (fun w' hw' => (S.out.call hw').base.page) ?_
        (try simp only [Act.put, List.setIfInBounds_toArray, List.set_cons_zero, List.set_cons_succ])
        refine wpQuiet_take (.int .i64 i) (by kernel_rfl) (fun w' hw' => ?_) ?_
        · go_simp
        (try simp only [Act.put, List.setIfInBounds_toArray, List.set_cons_zero, List.set_cons_succ])
        refine wpQuiet_take (.int .i64 n) (by kernel_rfl) (fun w' hw' => ?_) ?_
        · go_simp
        (try simp only [Act.put, List.setIfInBounds_toArray, List.set_cons_zero, List.set_cons_succ])
        refine wpQuiet_call 18 #[pageV p, .int .i64 i, .int .i64 n] (pageV p) (by kernel_rfl) (fun w' => by (go_simp) <;> rfl) (fun w' hw' => (HY.out w').mono fun e w'' h => ⟨h.1, hw'.trans (h.2.mono hw'.size)⟩) ?_
        (try simp only [Act.put, List.setIfInBounds_toArray, List.set_cons_zero, List.set_cons_succ])
        refine wpQuiet_page (p := p) (.tmp 3) rfl rfl (by kernel_rfl) (fun w' hw' => (S.out.call hw').base.page) ?_
        (try simp only [Act.put, List.setIfInBounds_toArray, List.set_cons_zero, List.set_cons_succ])
        refine wpQuiet_take (.bool true) (by kernel_rfl) (fun w' hw' => ?_) ?_
        · go_simp
        (try simp only [Act.put, List.setIfInBounds_toArray, List.set_cons_zero, List.set_cons_succ])
        refine wpQuiet_take (.bool true) (by kernel_rfl) (fun w' hw' => ?_) ?_
        · go_simp
        (try simp only [Act.put, List.setIfInBounds_toArray, List.set_cons_zero, List.set_cons_succ])
        refine wpQuiet_take (.bool true) (by kernel_rfl) (fun w' hw' => ?_) ?_
        · go_simp
        (try simp only [Act.put, List.setIfInBounds_toArray, List.set_cons_zero, List.set_cons_succ])
        refine wpQuiet_nil ?_
        intro w4 hw4
        have hs := (S.out.call hw4).base.below
        go_wp2
        go_ret
        exact ⟨rfl, hs⟩
set_option maxRecDepth 100000 in
set_option maxHeartbeats 4000000 in
theorem walk_there (p : List UInt8) (i n : Int) (w : World) (hp : p.length = 64) (h0 : 0 ≤ i) (h1 : i ≤ 31) :
    Calls Try.prog 6 #[pageV p, .int .i64 i, .int .i64 n] w fun e w' => e = .returned (.bool true) ∧ Below w.heap.size w w' := by
  have HN := Lib.hid (fun w => numbers_any p w hp)
  have HK : Hid (∀ (k : Nat), k < 32 → ∀ w, Calls Try.prog 16 #[pageV p, .int .i64 (2 * (k : Int)), .int .i64 2] w fun e w' => e = .returned (.int .i64 (numN p (k : Int))) ∧ Below w.heap.size w w') := Lib.hid (fun k hk w => by
    have := refGet_any p (2 * (k : Int)) 2 w hp
    rw [numN_in p (k : Int) (by omega) (by omega)]
    exact this)
  have HL : Hid (∀ (k : Nat) w, Calls Try.prog 17 #[pageV p, .int .i64 (k : Int)] w fun e w' => e = .returned (.int .i64 (numN p (k : Int))) ∧ Below w.heap.size w w') := Lib.hid (fun k w => number_any p (k : Int) w hp)
  have hq := setNum_length p i n hp
  have hqe := setNum_in p i n h0 (by omega)
  obtain ⟨q, EQ⟩ : ∃ q, setNum p i n = q := ⟨_, rfl⟩
  have HY : Hid (∀ w, Calls Try.prog 18 #[pageV p, .int .i64 i, .int .i64 n] w fun e w' => e = .returned (pageV q) ∧ Below w.heap.size w w') := Lib.hid (fun w => by rw [← EQ]; exact setNumber_any p i n w hp)
  have HZ : Hid (∀ w, Calls Try.prog 19 #[pageV p, .int .i64 (2 * i), .int .i64 2, .int .i64 n] w fun e w' => e = .returned (pageV q) ∧ Below w.heap.size w w') := Lib.hid (fun w => by rw [← EQ, hqe]; exact refSet_any p (2 * i) 2 n w hp)
  rw [EQ] at hq
  have E1 := fun (a b : Operand) (w : World) => run_eqGuard_page w a b q q
  have E2 := fun (w : World) => run_eql_same w q hq
  clear EQ hqe hq
  have HI := Lib.hid (And.intro h0 h1); clear h0 h1
  have S0 : Hid (NpS w p w.heap.size (w.alloc (.cells (byteVals p).toArray 39))) := Lib.hid ⟨pageAt_new w p 39 hp, (Below.refl _ _).alloc (Nat.le_refl _) _⟩
  clear hp
  unfold pageV
  go_enter Try.func6, Try.ntmps6
  go_wp2_with fail
  generalize w.alloc (.cells (byteVals p).toArray 39) = w0 at S0 ⊢
  generalize w.heap.size = D at S0 ⊢
  refine (awake_any _).mono ?_
  rintro e w1 ⟨rfl, hb⟩
  replace S0 := Lib.hid (S0.out.call hb)
  clear hb
  go_wp2_with (first
    | (with_reducible refine wpList_load_page S0.out.page rfl (.tmp 3) rfl rfl ?_)
    | (go_at_call 15; (with_reducible refine (HN.out _).mono ?_); rintro e w2 ⟨B, rfl, hr, hb⟩; have S1 : Hid (NnS w p D B (numsUpto p 32) w2) := Lib.hid ⟨S0.out.call hb, hr⟩; clear hb hr S0))
  go_loopw [18] (fun i wr => ∃ k : Nat, k ≤ 32 ∧ i = .int .i64 (k : Int) ∧ NnS w p D B (numsUpto p 32) wr) (fun i _ => 32 - (intOf i).toNat)
  case atStart => exact ⟨0, Nat.zero_le _, rfl, S1.out⟩
  case round =>
    obtain ⟨k, hk, rfl, hS⟩ := hrel
    have S := Lib.hid hS
    clear hS S1
    by_cases hlt : k < 32
    · have HC : Hid (∀ W, NnS w p D B (numsUpto p 32) W → W.cell? ⟨B, k, none⟩ = some (.int .i64 (numN p (k : Int)))) := Lib.hid (fun W h => h.cell k hlt)
      have HK' := Lib.hid (HK.out k hlt)
      have HL' := Lib.hid (HL.out k)
      have w1 : IntKind.i64.wrap (2 * (k : Int)) = 2 * (k : Int) := IntWalk.i64_in _ (by omega)
      generalize numN p (k : Int) = x at HC HK' HL'
      go_wp2_with fail
      refine wp_region_class (C := fun w' => Below wr.heap.size wr w') (by kernel_rfl) ⟨rfl, rfl, rfl, Nat.le_refl _, fun _ _ => rfl⟩ ?_
      refine wpQuiet_take (.slice (some ⟨B, 0, none⟩) 32 32) (by kernel_rfl) (fun w' hw' => ?_) ?_
      · go_simp
      (try simp only [Act.put, List.setIfInBounds_toArray, List.set_cons_zero, List.set_cons_succ])
      refine wpQuiet_take (.int .i64 (k : Int)) (by kernel_rfl) (fun w' hw' => ?_) ?_
      · go_simp
      (try simp only [Act.put, List.setIfInBounds_toArray, List.set_cons_zero, List.set_cons_succ])
      refine wpQuiet_take (.pointer (some ⟨B, k, none⟩)) (by kernel_rfl) (fun w' hw' => ?_) ?_
      · go_simp
      (try simp only [Act.put, List.setIfInBounds_toArray, List.set_cons_zero, List.set_cons_succ])
      refine wpQuiet_take (.int .i64 x) (by kernel_rfl) (fun w' hw' => ?_) ?_
      · (have hc := HC.out _ (S.out.call hw'); go_simp)
      (try simp only [Act.put, List.setIfInBounds_toArray, List.set_cons_zero, List.set_cons_succ])
      refine wpQuiet_page (p := p) (.tmp 3) rfl rfl (by kernel_rfl) (fun w' hw' => (S.out.call hw').base.page) ?_
      (try simp only [Act.put, List.setIfInBounds_toArray, List.set_cons_zero, List.set_cons_succ])
      refine wpQuiet_take (.int .i64 (k : Int)) (by kernel_rfl) (fun w' hw' => ?_) ?_
      · go_simp
      (try simp only [Act.put, List.setIfInBounds_toArray, List.set_cons_zero, List.set_cons_succ])
      refine wpQuiet_take (.int .i64 (2 * (k : Int))) (by kernel_rfl) (fun w' hw' => ?_) ?_
      · go_simp
      (try simp only [Act.put, List.setIfInBounds_toArray, List.set_cons_zero, List.set_cons_succ])
      refine wpQuiet_call 16 #[pageV p, .int .i64 (2 * (k : Int)), .int .i64 2] (.int .i64 x) (by kernel_rfl) (fun w' => by (go_simp) <;> rfl) (fun w' hw' => (HK'.out w').mono fun e w'' h => ⟨h.1, hw'.trans (h.2.mono hw'.size)⟩) ?_
      (try simp only [Act.put, List.setIfInBounds_toArray, List.set_cons_zero, List.set_cons_succ])
      refine wpQuiet_take (.bool false) (by kernel_rfl) (fun w' hw' => ?_) ?_
      · go_simp
      (try simp only [Act.put, List.setIfInBounds_toArray, List.set_cons_zero, List.set_cons_succ])
      refine wpQuiet_take (.bool false) (by kernel_rfl) (fun w' hw' => ?_) ?_
      · go_simp
      (try simp only [Act.put, List.setIfInBounds_toArray, List.set_cons_zero, List.set_cons_succ])
      refine wpQuiet_take (.slice (some ⟨B, 0, none⟩) 32 32) (by kernel_rfl) (fun w' hw' => ?_) ?_
      · go_simp
      (try simp only [Act.put, List.setIfInBounds_toArray, List.set_cons_zero, List.set_cons_succ])
      refine wpQuiet_take (.int .i64 (k : Int)) (by kernel_rfl) (fun w' hw' => ?_) ?_
      · go_simp
      (try simp only [Act.put, List.setIfInBounds_toArray, List.set_cons_zero, List.set_cons_succ])
      refine wpQuiet_take (.pointer (some ⟨B, k, none⟩)) (by kernel_rfl) (fun w' hw' => ?_) ?_
      · go_simp
      (try simp only [Act.put, List.setIfInBounds_toArray, List.set_cons_zero, List.set_cons_succ])
      refine wpQuiet_take (.int .i64 x) (by kernel_rfl) (fun w' hw' => ?_) ?_
      · (have hc := HC.out _ (S.out.call hw'); go_simp)
      (try simp only [Act.put, List.setIfInBounds_toArray, List.set_cons_zero, List.set_cons_succ])
      refine wpQuiet_page (p := p) (.tmp 3) rfl rfl (by kernel_rfl) (fun w' hw' => (S.out.call hw').base.page) ?_
      (try simp only [Act.put, List.setIfInBounds_toArray, List.set_cons_zero, List.set_cons_succ])
      refine wpQuiet_take (.int .i64 (k : Int)) (by kernel_rfl) (fun w' hw' => ?_) ?_
      · go_simp
      (try simp only [Act.put, List.setIfInBounds_toArray, List.set_cons_zero, List.set_cons_succ])
      refine wpQuiet_call 17 #[pageV p, .int .i64 (k : Int)] (.int .i64 x) (by kernel_rfl) (fun w' => by (go_simp) <;> rfl) (fun w' hw' => (HL'.out w').mono fun e w'' h => ⟨h.1, hw'.trans (h.2.mono hw'.size)⟩) ?_
      (try simp only [Act.put, List.setIfInBounds_toArray, List.set_cons_zero, List.set_cons_succ])
      refine wpQuiet_take (.bool false) (by kernel_rfl) (fun w' hw' => ?_) ?_
      · go_simp
      (try simp only [Act.put, List.setIfInBounds_toArray, List.set_cons_zero, List.set_cons_succ])
      refine wpQuiet_take (.bool false) (by kernel_rfl) (fun w' hw' => ?_) ?_
      · go_simp
      (try simp only [Act.put, List.setIfInBounds_toArray, List.set_cons_zero, List.set_cons_succ])
      refine wpQuiet_nil ?_
      intro w3 hw3
      replace S := Lib.hid (S.out.call hw3)
      clear HK' HL' HC w1
      go_wp2_with fail
      go_roundw
      case rel => exact ⟨k + 1, by omega, by go_num, S.out⟩
      case measure => simp [intOf]; omega
    · obtain ⟨h0, h1⟩ := HI.out
      have w1 : IntKind.i64.wrap (2 * i) = 2 * i := IntWalk.i64_in _ (by omega)
      go_wp2_with fail
      refine wp_region_class (C := fun w' => Below wr.heap.size wr w') (by kernel_rfl) ⟨rfl, rfl, rfl, Nat.le_refl _, fun _ _ => rfl⟩ ?_
      refine wpQuiet_page (p := p) (.tmp 3) rfl rfl (by kernel_rfl) (fun w' hw' => (S.out.call hw').base.page) ?_
      (try simp only [Act.put, List.setIfInBounds_toArray, List.set_cons_zero, List.set_cons_succ])
      refine wpQuiet_take (.int .i64 i) (by kernel_rfl) (fun w' hw' => ?_) ?_
      · go_simp
      (try simp only [Act.put, List.setIfInBounds_toArray, List.set_cons_zero, List.set_cons_succ])
      refine wpQuiet_take (.int .i64 n) (by kernel_rfl) (fun w' hw' => ?_) ?_
      · go_simp
      (try simp only [Act.put, List.setIfInBounds_toArray, List.set_cons_zero, List.set_cons_succ])
      refine wpQuiet_call 18 #[pageV p, .int .i64 i, .int .i64 n] (pageV q) (by kernel_rfl) (fun w' => by (go_simp) <;> rfl) (fun w' hw' => (HY.out w').mono fun e w'' h => ⟨h.1, hw'.trans (h.2.mono hw'.size)⟩) ?_
      (try simp only [Act.put, List.setIfInBounds_toArray, List.set_cons_zero, List.set_cons_succ])
      refine wpQuiet_page (p := p) (.tmp 3) rfl rfl (by kernel_rfl) (fun w' hw' => (S.out.call hw').base.page) ?_
      (try simp only [Act.put, List.setIfInBounds_toArray, List.set_cons_zero, List.set_cons_succ])
      refine wpQuiet_take (.int .i64 i) (by kernel_rfl) (fun w' hw' => ?_) ?_
      · go_simp
      (try simp only [Act.put, List.setIfInBounds_toArray, List.set_cons_zero, List.set_cons_succ])
      refine wpQuiet_take (.int .i64 (2 * i)) (by kernel_rfl) (fun w' hw' => ?_) ?_
      · go_simp
      (try simp only [Act.put, List.setIfInBounds_toArray, List.set_cons_zero, List.set_cons_succ])
      refine wpQuiet_take (.int .i64 n) (by kernel_rfl) (fun w' hw' => ?_) ?_
      · go_simp
      (try simp only [Act.put, List.setIfInBounds_toArray, List.set_cons_zero, List.set_cons_succ])
      refine wpQuiet_call 19 #[pageV p, .int .i64 (2 * i), .int .i64 2, .int .i64 n] (pageV q) (by kernel_rfl) (fun w' => by (go_simp) <;> rfl) (fun w' hw' => (HZ.out w').mono fun e w'' h => ⟨h.1, hw'.trans (h.2.mono hw'.size)⟩) ?_
      (try simp only [Act.put, List.setIfInBounds_toArray, List.set_cons_zero, List.set_cons_succ])
      refine wpQuiet_take (.bool true) (by kernel_rfl) (fun w' hw' => ?_) ?_
      · go_simp
      (try simp only [Act.put, List.setIfInBounds_toArray, List.set_cons_zero, List.set_cons_succ])
      refine wpQuiet_take (.bool true) (by kernel_rfl) (fun w' hw' => ?_) ?_
      · go_simp
      (try simp only [Act.put, List.setIfInBounds_toArray, List.set_cons_zero, List.set_cons_succ])
      refine wpQuiet_nil ?_
      intro w4 hw4
      have hs := (S.out.call hw4).base.below
      go_wp2
      go_ret
      exact ⟨rfl, hs⟩
theorem walk (p : List UInt8) (i n : Int) (w : World) (hp : p.length = 64) :
    Calls Try.prog 6 #[pageV p, .int .i64 i, .int .i64 n] w fun e w' => e = .returned (.bool true) ∧ Below w.heap.size w w' := by
  by_cases h : 0 ≤ i ∧ i ≤ 31
  · exact walk_there p i n w hp h.1 h.2
  · exact walk_far p i n w hp (by omega)
set_option maxRecDepth 100000 in
theorem lifted (os : Os) (started : os.Started) (H : Type) (enc : TypeId × Value → H) :
    ReturnsInHanded {} Try.checked os 6 .any (Rows.spanNumbersSpec.pre6 enc Try.prog Try.f6 Rows.spanNumbersRow.domain false) (Rows.spanNumbersSpec.post enc Try.prog Try.f6 false true false false) := by
  refine returnsInHanded_of_change (C := Try.checked) own started (by kernel_rfl) Try.func6
    (ChangeSpec.witness6 (enc := enc) (C := Try.checked) false ⟨#[], #[.agg #[.int .u8 0, .int .u8 0, .int .u8 0, .int .u8 0, .int .u8 0, .int .u8 0, .int .u8 0, .int .u8 0, .int .u8 0, .int .u8 0, .int .u8 0, .int .u8 0, .int .u8 0, .int .u8 0, .int .u8 0, .int .u8 0, .int .u8 0, .int .u8 0, .int .u8 0, .int .u8 0, .int .u8 0, .int .u8 0, .int .u8 0, .int .u8 0, .int .u8 0, .int .u8 0, .int .u8 0, .int .u8 0, .int .u8 0, .int .u8 0, .int .u8 0, .int .u8 0, .int .u8 0, .int .u8 0, .int .u8 0, .int .u8 0, .int .u8 0, .int .u8 0, .int .u8 0, .int .u8 0, .int .u8 0, .int .u8 0, .int .u8 0, .int .u8 0, .int .u8 0, .int .u8 0, .int .u8 0, .int .u8 0, .int .u8 0, .int .u8 0, .int .u8 0, .int .u8 0, .int .u8 0, .int .u8 0, .int .u8 0, .int .u8 0, .int .u8 0, .int .u8 0, .int .u8 0, .int .u8 0, .int .u8 0, .int .u8 0, .int .u8 0, .int .u8 0], .int .i64 0, .int .i64 0], []⟩ 8 (by kernel_rfl) (by kernel_rfl) (by kernel_rfl) (by kernel_rfl)) ?_
  intro W base args ds gs before hval0 hW hcnd _
  have hval : ∀ (j : Nat) t v, Try.f6.params[j]? = some t → args[j]? = some v → Value.okWide Try.prog W .any base t v := hval0
  have hW' := hW
  obtain ⟨p, q, hA0, hV, rfl, hfz, hnd⟩ := hW
  have hA : DataW.TrodAll enc Try.prog W 0 (fun _ => true) true Try.f6.params.toList args.toList ds p := hA0
  rw [Try.params6] at hA hval
  obtain ⟨v0, vs0, d0, ds0, p0, q0, hargs, rfl, rfl, h0, r0⟩ := trodAll_cons hA
  obtain ⟨v1, vs1, d1, ds1, p1, q1, rfl, rfl, rfl, h1, r1⟩ := trodAll_cons r0
  obtain ⟨v2, vs2, d2, ds2, p2, q2, rfl, rfl, rfl, h2, r2⟩ := trodAll_cons r1
  obtain ⟨rfl, rfl, rfl⟩ := trodAll_nil r2
  obtain rfl : args = #[v0, v1, v2] := by cases args; simp_all
  obtain ⟨rfl, rfl⟩ := trodVars_none hV
  have k0 := h0
  have lt0 : ∀ x ∈ p0, x.block < W.heap.size := by obtain ⟨m, hm⟩ := k0; exact DataW.trod_lt m _ _ _ hm
  have k1 := h1
  have lt1 : ∀ x ∈ p1, x.block < W.heap.size := by obtain ⟨m, hm⟩ := k1; exact DataW.trod_lt m _ _ _ hm
  have k2 := h2
  have lt2 : ∀ x ∈ p2, x.block < W.heap.size := by obtain ⟨m, hm⟩ := k2; exact DataW.trod_lt m _ _ _ hm
  obtain ⟨p, hq0, rfl⟩ := open_page (hval 0 39 v0 rfl rfl) h0
  obtain ⟨i, rfl, ed1, ep1, w1⟩ := open_int Try.underlying3 (hval 1 3 v1 rfl rfl) h1
  obtain ⟨n, rfl, ed2, ep2, w2⟩ := open_int Try.underlying3 (hval 2 3 v2 rfl rfl) h2
  clear hA0 hval0
  refine (walk p i n W hq0).mono fun e W' ⟨he, bel⟩ => ?_
  subst he
  exact ⟨_, rfl, _, _, _, [], _, [], hW', trodAll_mk1 (shut_bool Try.underlying4 _), (trodAll_cons_mk (Below.trod laidOut (by kernel_rfl) (of_decide_eq_true (by kernel_rfl)) k0 bel lt0) (trodAll_cons_mk (Below.trod laidOut (by kernel_rfl) (of_decide_eq_true (by kernel_rfl)) k1 bel lt1) (trodAll_cons_mk (Below.trod laidOut (by kernel_rfl) (of_decide_eq_true (by kernel_rfl)) k2 bel lt2) trodAll_mk0))), rfl, bel.frame _, fun h => by cases h⟩
theorem over : Rows.spanNumbersRow.holds Try.pinned (OpenSpec.ofChange Rows.spanNumbersSpec) :=
  OpenClaim.holds_of_wide 6 Try.f6 rfl rfl rfl rfl rfl rfl rfl ⟨rfl, rfl, rfl, rfl, rfl⟩ rfl rfl rfl rfl rfl (by kernel_rfl) Try.func6 (by kernel_rfl)
    (of_decide_eq_true (by kernel_rfl)) (by unfold Func.isWrapper; first | (rw [if_pos (by decide +kernel)]; kernel_rfl) | (rw [if_neg (by decide +kernel)]; exact ⟨rfl, rfl⟩))
    (fun os started H enc _ => lifted os started H enc)

/-- THE STATEMENT -/
theorem proved : Rows.SpanNumbersSaid := over
#print axioms proved
end Go.Proofs.Ytjobaoecomdipaa.spanNumbers
