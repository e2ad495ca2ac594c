/-
  The contracts of span.among, Where, Index, Pages, and of the document's own Where and Pages.
-/
import Derived.Test.YtjobaoecomdipaaSmath
import Derived.Test.YtjobaoecomdipaaLmem
namespace Go.Proofs.Ytjobaoecomdipaa
open Go.RowKit

theorem wayT : RowT 24 3 := ⟨⟨_, Try.underlying24, rfl⟩, by kernel_rfl⟩
def wayL (d o n : Int) : List Value := [.int .i64 d, .int .i64 o, .int .i64 n]
theorem wayL_one (d o n : Int) : ∀ v ∈ wayL d o n, v.oneCell' = true := by
  intro v hv
  simp only [wayL, List.mem_cons, List.not_mem_nil, or_false] at hv
  rcases hv with rfl | rfl | rfl <;> rfl
def wayV (d o n : Int) : Value := .agg #[.int .i64 d, .int .i64 o, .int .i64 n]
theorem wayV_def (d o n : Int) : Value.agg (wayL d o n).toArray = wayV d o n := rfl

set_option maxRecDepth 100000 in
set_option maxHeartbeats 400000 in
theorem among_any (c i : Int) (w : World) : Calls Try.prog 20 #[.int .i64 c, .int .i64 i] w fun e w' => e = .returned (.bool (decide (0 ≤ i ∧ i < c))) ∧ w = w' := by
  go_enter Try.func20, Try.ntmps20
  by_cases c1 : 0 ≤ i
  · by_cases c2 : i < c
    · go_wp2
      go_ret
      exact ⟨ret_bool (by simp [c1, c2]), rfl⟩
    · go_wp2
      go_ret
      exact ⟨ret_bool (by simp; omega), rfl⟩
  · go_wp2
    go_ret
    exact ⟨ret_bool (by simp; omega), rfl⟩
theorem among_yes (c i : Int) (w : World) (h0 : 0 ≤ i) (h1 : i < c) : Calls Try.prog 20 #[.int .i64 c, .int .i64 i] w fun e w' => e = .returned (.bool true) ∧ w = w' := by
  have := among_any c i w
  rwa [decide_eq_true ⟨h0, h1⟩] at this
theorem among_no (c i : Int) (w : World) (h : ¬ (0 ≤ i ∧ i < c)) : Calls Try.prog 20 #[.int .i64 c, .int .i64 i] w fun e w' => e = .returned (.bool false) ∧ w = w' := by
  have := among_any c i w
  rwa [decide_eq_false h] at this

/-! ### Where -/
theorem way_end (w : World) (t : TypeId) (d o n : Int) : RowAt (w.alloc (.cells #[.int .i64 d, .int .i64 o, .int .i64 n] t)) w.heap.size (wayL d o n) := rowAt_new w (wayL d o n) t
def WhereGives (i : Int) (w : World) : Prop := Calls Try.prog 8 #[.int .i64 i] w fun e w' => e = .returned (.tuple #[wayV (Sp.dep i) (Sp.out i) (Sp.inn i), .bool (Sp.okB i)]) ∧ Below w.heap.size w w'
set_option maxRecDepth 100000 in
set_option maxHeartbeats 1000000 in
theorem where_no (i : Int) (w : World) (h : i < 0 ∨ 1060 ≤ i) : WhereGives i w := by
  unfold WhereGives
  obtain ⟨e0, e1, e2, e3⟩ := Sp.no_page h
  rw [e0, e1, e2, e3]
  clear e0 e1 e2 e3
  rcases h with h | h
  all_goals
    go_enter Try.func8, Try.ntmps8
    go_wp2
    exact bodyPost_ret (results_row2 wayT _ 2 3 rfl _ (way_end w _ 0 0 0) rfl rfl rfl) rfl ⟨rfl, (Below.refl _ _).alloc (Nat.le_refl _) _⟩
set_option maxRecDepth 100000 in
set_option maxHeartbeats 1000000 in
theorem where_0 (i : Int) (w : World) (h0 : 0 ≤ i) (h1 : i < 4) : WhereGives i w := by
  unfold WhereGives
  obtain ⟨e0, e1, e2, e3⟩ := Sp.page0 h0 h1
  rw [e0, e1, e2, e3]
  clear e0 e1 e2 e3
  have h2 : i < 1060 := by omega
  go_enter Try.func8, Try.ntmps8
  go_wp2
  exact bodyPost_ret (results_row2 wayT _ 2 3 rfl _ (way_end w _ 0 0 i) rfl rfl rfl) rfl ⟨rfl, (Below.refl _ _).alloc (Nat.le_refl _) _⟩
set_option maxRecDepth 100000 in
set_option maxHeartbeats 1000000 in
theorem where_1 (i : Int) (w : World) (h0 : 4 ≤ i) (h1 : i < 36) : WhereGives i w := by
  unfold WhereGives
  obtain ⟨e0, e1, e2, e3⟩ := Sp.page1 h0 h1
  rw [e0, e1, e2, e3]
  clear e0 e1 e2 e3
  have h2 : i < 1060 := by omega
  go_enter Try.func8, Try.ntmps8
  go_wp2
  exact bodyPost_ret (results_row2 wayT _ 2 3 rfl _ (way_end w _ 1 0 (i - 4)) rfl rfl rfl) rfl ⟨rfl, (Below.refl _ _).alloc (Nat.le_refl _) _⟩
set_option maxRecDepth 100000 in
set_option maxHeartbeats 1000000 in
theorem where_2 (i : Int) (w : World) (h0 : 36 ≤ i) (h1 : i < 1060) : WhereGives i w := by
  unfold WhereGives
  obtain ⟨e0, e1, e2, e3⟩ := Sp.page2 h0 h1
  rw [e0, e1, e2, e3]
  clear e0 e1 e2 e3
  go_enter Try.func8, Try.ntmps8
  go_wp2
  exact bodyPost_ret (results_row2 wayT _ 2 3 rfl _ (way_end w _ 2 ((i - 36) / 32) ((i - 36) % 32)) rfl rfl rfl) rfl ⟨rfl, (Below.refl _ _).alloc (Nat.le_refl _) _⟩
theorem where_any (i : Int) (w : World) : WhereGives i w := by
  rcases Sp.kinds i with c | ⟨c1, c2⟩ | ⟨c1, c2⟩ | ⟨c1, c2⟩
  · exact where_no i w c
  · exact where_0 i w c1 c2
  · exact where_1 i w c1 c2
  · exact where_2 i w c1 c2

/-! ### the document's own Where -/
theorem results_tmp4 {fn : Func} {t u v x : Tmp} (h : fn.results = #[.tmp t, .tmp u, .tmp v, .tmp x]) (tmps : Array Value) (P : Program) (w : World) :
    (results fn tmps).run P w = .ok (.tuple #[tmps.getD t undef, tmps.getD u undef, tmps.getD v undef, tmps.getD x undef]) w := by
  simp [results, h]
def RwhereGives (i : Int) (w : World) : Prop := Calls Try.prog 9 #[.int .i64 i] w fun e w' => e = .returned (.tuple #[.int .i64 (Sp.dep i), .int .i64 (Sp.out i), .int .i64 (Sp.inn i), .bool (Sp.okB i)]) ∧ w = w'
set_option maxRecDepth 100000 in
set_option maxHeartbeats 1000000 in
theorem rwhere_any (i : Int) (w : World) : RwhereGives i w := by
  unfold RwhereGives
  rcases Sp.kinds i with c | ⟨c1, c2⟩ | ⟨c1, c2⟩ | ⟨c1, c2⟩
  · obtain ⟨e0, e1, e2, e3⟩ := Sp.no_page c
    rw [e0, e1, e2, e3]
    clear e0 e1 e2 e3
    rcases c with c | c
    all_goals
      go_enter Try.func9, Try.ntmps9
      go_wp2
      (try simp only [Exit.inBlock, Exit.then]); refine bodyPost_ret (results_tmp4 rfl _ _ _) rfl ?_
      exact ⟨rfl, rfl⟩
  · obtain ⟨e0, e1, e2, e3⟩ := Sp.page0 c1 c2
    rw [e0, e1, e2, e3]
    clear e0 e1 e2 e3
    have h2 : i < 1060 := by omega
    have h3 : i ≤ 3 := by omega
    go_enter Try.func9, Try.ntmps9
    go_wp2
    (try simp only [Exit.inBlock, Exit.then]); refine bodyPost_ret (results_tmp4 rfl _ _ _) rfl ?_
    exact ⟨rfl, rfl⟩
  · obtain ⟨e0, e1, e2, e3⟩ := Sp.page1 c1 c2
    rw [e0, e1, e2, e3]
    clear e0 e1 e2 e3
    have h2 : i < 1060 := by omega
    have h3 : ¬ i ≤ 3 := by omega
    have h4 : i ≤ 35 := by omega
    go_enter Try.func9, Try.ntmps9
    go_wp2
    (try simp only [Exit.inBlock, Exit.then]); refine bodyPost_ret (results_tmp4 rfl _ _ _) rfl ?_
    exact ⟨rfl, rfl⟩
  · obtain ⟨e0, e1, e2, e3⟩ := Sp.page2 c1 c2
    rw [e0, e1, e2, e3]
    clear e0 e1 e2 e3
    obtain ⟨k, rfl⟩ : ∃ k : Nat, i = 36 + (k : Int) := ⟨(i - 36).toNat, by omega⟩
    have hk : k < 1024 := by omega
    have HE : Hid ((36 + (k : Int) - 36) / 32 = ((k / 32 : Nat) : Int) ∧ (36 + (k : Int) - 36) % 32 = ((k % 32 : Nat) : Int)) := Lib.hid (by omega)
    go_enter Try.func9, Try.ntmps9
    go_wp2
    go_loop [6, 7] (fun o l => ∃ j : Nat, 32 * j ≤ k ∧ o = .int .i64 (j : Int) ∧ l = .int .i64 ((k - 32 * j : Nat) : Int)) (fun _ l => (intOf l).toNat)
    case atStart => exact ⟨0, Nat.zero_le _, rfl, by simp; omega⟩
    case round =>
      obtain ⟨j, hj, rfl, rfl⟩ := hrel
      obtain ⟨m, hm⟩ : ∃ m, k = 32 * j + m := ⟨k - 32 * j, by omega⟩
      have em : k - 32 * j = m := by omega
      rw [em]
      clear em
      have HM := Lib.hid hm; clear hm
      have hm1 : m < 1024 := by have := HM.out; omega
      have hj1 : j < 1024 := by have := HM.out; omega
      by_cases hlt : 32 ≤ m
      · go_wp2
        go_round
        case rel => exact ⟨j + 1, by have := HM.out; omega, by go_num, by have := HM.out; congr 1; omega⟩
        case measure => simp [intOf]; omega
      · go_wp2
        (try simp only [Exit.inBlock, Exit.then]); refine bodyPost_ret (results_tmp4 rfl _ _ _) rfl ?_
        refine ⟨?_, rfl⟩
        rw [HE.out.1, HE.out.2, show k / 32 = j by have := HM.out; omega, show k % 32 = m by have := HM.out; omega]
        rfl

/-! ### Pages -/
set_option maxRecDepth 100000 in
set_option maxHeartbeats 1000000 in
theorem pages_any (s : Int) (w : World) (h2 : s ≤ 9223372036854775807) : Calls Try.prog 10 #[.int .i64 s] w fun e w' => e = .returned (.int .i64 (Sp.pgs s)) ∧ w = w' := by
  by_cases c : s ≤ 0
  · have HE : Hid (Sp.pgs s = 0) := Lib.hid (by unfold Sp.pgs; rw [if_pos c])
    go_enter Try.func10, Try.ntmps10
    go_wp2
    go_ret
    exact ⟨ret_int HE.out.symm, rfl⟩
  · have HE : Hid (Sp.pgs s = (s - 1) / 64 + 1) := Lib.hid (by unfold Sp.pgs; rw [if_neg c])
    go_enter Try.func10, Try.ntmps10
    go_wp2
    go_ret
    exact ⟨ret_int HE.out.symm, rfl⟩
set_option maxRecDepth 100000 in
set_option maxHeartbeats 1000000 in
theorem rpages_any (s : Int) (w : World) (h2 : s ≤ 9223372036854775807) : Calls Try.prog 11 #[.int .i64 s] w fun e w' => e = .returned (.int .i64 (Sp.pgs s)) ∧ w = w' := by
  by_cases c : s ≤ 0
  · have HE : Hid (Sp.pgs s = 0) := Lib.hid (by unfold Sp.pgs; rw [if_pos c])
    go_enter Try.func11, Try.ntmps11
    go_wp2
    go_ret
    exact ⟨ret_int HE.out.symm, rfl⟩
  · have HE : Hid (Sp.pgs s = (s - 1) / 64 + 1) := Lib.hid (by unfold Sp.pgs; rw [if_neg c])
    have HC := Lib.hid c
    by_cases d : s / 64 * 64 < s
    · have HD := Lib.hid d
      go_enter Try.func11, Try.ntmps11
      go_wp2
      go_ret
      exact ⟨ret_int (by rw [HE.out]; have := HD.out; have := HC.out; omega), rfl⟩
    · have HD := Lib.hid d
      go_enter Try.func11, Try.ntmps11
      go_wp2
      go_ret
      exact ⟨ret_int (by rw [HE.out]; have := HD.out; have := HC.out; omega), rfl⟩

/-! ### Index -/
def IndexGives (d o n : Int) (w : World) : Prop := Calls Try.prog 12 #[wayV d o n] w fun e w' => e = .returned (.tuple #[.int .i64 (Sp.idx d o n), .bool (Sp.idxB d o n)]) ∧ Below w.heap.size w w'
theorem way_box (w : World) (d o n : Int) : RowAt (w.alloc (.cells #[.int .i64 d, .int .i64 o, .int .i64 n] 24)) w.heap.size (wayL d o n) ∧ Below w.heap.size w (w.alloc (.cells #[.int .i64 d, .int .i64 o, .int .i64 n] 24)) :=
  ⟨rowAt_new w (wayL d o n) _, (Below.refl _ _).alloc (Nat.le_refl _) _⟩
theorem idx_yes {d o n : Int} (h : Sp.idxB d o n = true) : Sp.idx d o n = (if d = 0 then n else if d = 1 then 4 + n else 36 + o * 32 + n) := by unfold Sp.idx; rw [if_pos h]
theorem idx_no {d o n : Int} (h : Sp.idxB d o n = false) : Sp.idx d o n = 0 := by unfold Sp.idx; rw [if_neg (by rw [h]; decide)]
set_option maxRecDepth 100000 in
set_option maxHeartbeats 2000000 in
theorem index_any (d o n : Int) (w : World) : IndexGives d o n w := by
  unfold IndexGives
  have HB := Lib.hid (way_box w d o n).2
  unfold wayV
  by_cases d0 : d = 0
  · subst d0
    by_cases o0 : o = 0
    · subst o0
      by_cases hn : 0 ≤ n ∧ n < 4
      · have hB : Sp.idxB 0 0 n = true := by unfold Sp.idxB; rw [decide_eq_true_eq]; omega
        have HE : Hid (Sp.idx 0 0 n = n) := Lib.hid (by rw [idx_yes hB, if_pos rfl])
        rw [hB]
        clear hB
        have HN := Lib.hid (fun w => among_yes 4 n w hn.1 hn.2)
        clear hn
        go_enter Try.func12, Try.ntmps12
        go_wp2_with (go_at_call 20; (with_reducible refine (HN.out _).mono ?_); rintro e w' ⟨rfl, rfl⟩)
        go_ret2
        rw [HE.out]
        exact ⟨rfl, HB.out⟩
      · have hB : Sp.idxB 0 0 n = false := by unfold Sp.idxB; rw [decide_eq_false_iff_not]; omega
        rw [idx_no hB, hB]
        clear hB
        have HN := Lib.hid (fun w => among_no 4 n w hn)
        clear hn
        go_enter Try.func12, Try.ntmps12
        go_wp2_with (go_at_call 20; (with_reducible refine (HN.out _).mono ?_); rintro e w' ⟨rfl, rfl⟩)
        go_ret2
        exact ⟨rfl, HB.out⟩
    · have hB : Sp.idxB 0 o n = false := by unfold Sp.idxB; rw [decide_eq_false_iff_not]; omega
      rw [idx_no hB, hB]
      clear hB
      have e0 : (o == 0) = false := by rw [beq_eq_false_iff_ne]; exact o0
      clear o0
      go_enter Try.func12, Try.ntmps12
      go_wp2
      go_ret2
      exact ⟨rfl, HB.out⟩
  · by_cases d1 : d = 1
    · subst d1
      clear d0
      by_cases o0 : o = 0
      · subst o0
        by_cases hn : 0 ≤ n ∧ n < 32
        · have hB : Sp.idxB 1 0 n = true := by unfold Sp.idxB; rw [decide_eq_true_eq]; omega
          have HE : Hid (Sp.idx 1 0 n = 4 + n) := Lib.hid (by rw [idx_yes hB, if_neg (by omega), if_pos rfl])
          rw [hB]
          clear hB
          have HN := Lib.hid (fun w => among_yes 32 n w hn.1 hn.2)
          obtain ⟨hn1, hn2⟩ := hn
          go_enter Try.func12, Try.ntmps12
          go_wp2_with (go_at_call 20; (with_reducible refine (HN.out _).mono ?_); rintro e w' ⟨rfl, rfl⟩)
          go_ret2
          rw [HE.out]
          exact ⟨rfl, HB.out⟩
        · have hB : Sp.idxB 1 0 n = false := by unfold Sp.idxB; rw [decide_eq_false_iff_not]; omega
          rw [idx_no hB, hB]
          clear hB
          have HN := Lib.hid (fun w => among_no 32 n w hn)
          clear hn
          go_enter Try.func12, Try.ntmps12
          go_wp2_with (go_at_call 20; (with_reducible refine (HN.out _).mono ?_); rintro e w' ⟨rfl, rfl⟩)
          go_ret2
          exact ⟨rfl, HB.out⟩
      · have hB : Sp.idxB 1 o n = false := by unfold Sp.idxB; rw [decide_eq_false_iff_not]; omega
        rw [idx_no hB, hB]
        clear hB
        have e0 : (o == 0) = false := by rw [beq_eq_false_iff_ne]; exact o0
        clear o0
        go_enter Try.func12, Try.ntmps12
        go_wp2
        go_ret2
        exact ⟨rfl, HB.out⟩
    · have e0 : (d == 0) = false := by rw [beq_eq_false_iff_ne]; exact d0
      have e1 : (d == 1) = false := by rw [beq_eq_false_iff_ne]; exact d1
      by_cases d2 : d = 2
      · subst d2
        clear d0 d1 e0 e1
        by_cases ho : 0 ≤ o ∧ o < 32
        · have HO := Lib.hid (fun w => among_yes 32 o w ho.1 ho.2)
          obtain ⟨ho1, ho2⟩ := ho
          by_cases hn : 0 ≤ n ∧ n < 32
          · have hB : Sp.idxB 2 o n = true := by unfold Sp.idxB; rw [decide_eq_true_eq]; omega
            have HE : Hid (Sp.idx 2 o n = 36 + o * 32 + n) := Lib.hid (by rw [idx_yes hB, if_neg (by omega), if_neg (by omega)])
            rw [hB]
            clear hB
            have HN := Lib.hid (fun w => among_yes 32 n w hn.1 hn.2)
            obtain ⟨hn1, hn2⟩ := hn
            go_enter Try.func12, Try.ntmps12
            go_wp2_with (first
              | (go_at_call 20; (with_reducible refine (HO.out _).mono ?_); rintro e w' ⟨rfl, rfl⟩)
              | (go_at_call 20; (with_reducible refine (HN.out _).mono ?_); rintro e w' ⟨rfl, rfl⟩))
            go_ret2
            rw [HE.out]
            exact ⟨rfl, HB.out⟩
          · have hB : Sp.idxB 2 o n = false := by unfold Sp.idxB; rw [decide_eq_false_iff_not]; omega
            rw [idx_no hB, hB]
            clear hB
            have HN := Lib.hid (fun w => among_no 32 n w hn)
            clear hn
            go_enter Try.func12, Try.ntmps12
            go_wp2_with (first
              | (go_at_call 20; (with_reducible refine (HO.out _).mono ?_); rintro e w' ⟨rfl, rfl⟩)
              | (go_at_call 20; (with_reducible refine (HN.out _).mono ?_); rintro e w' ⟨rfl, rfl⟩))
            go_ret2
            exact ⟨rfl, HB.out⟩
        · have hB : Sp.idxB 2 o n = false := by unfold Sp.idxB; rw [decide_eq_false_iff_not]; omega
          rw [idx_no hB, hB]
          clear hB
          have HO := Lib.hid (fun w => among_no 32 o w ho)
          clear ho
          go_enter Try.func12, Try.ntmps12
          go_wp2_with (go_at_call 20; (with_reducible refine (HO.out _).mono ?_); rintro e w' ⟨rfl, rfl⟩)
          go_ret2
          exact ⟨rfl, HB.out⟩
      · have hB : Sp.idxB d o n = false := by unfold Sp.idxB; rw [decide_eq_false_iff_not]; omega
        rw [idx_no hB, hB]
        clear hB
        have e2 : (d == 2) = false := by rw [beq_eq_false_iff_ne]; exact d2
        clear d0 d1 d2
        go_enter Try.func12, Try.ntmps12
        go_wp2
        go_ret2
        exact ⟨rfl, HB.out⟩
end Go.Proofs.Ytjobaoecomdipaa
