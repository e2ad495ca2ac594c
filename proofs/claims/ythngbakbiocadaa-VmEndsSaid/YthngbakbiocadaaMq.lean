/-
  A helper's arguments.
-/
import Derived.Test.YthngbakbiocadaaMp
import Derived.Test.YthngbakbiocadaaMb
import Derived.Test.YthngbakbiocadaaMi

namespace Go.Proofs.Ythngbakbiocadaa
set_option maxRecDepth 100000
open Go.ChangeShapes Go.WideShapes Go.ChangeAt Go.RowKit Go.Maps
open V
theorem RowAt.setOne {w : World} {b : Nat} {vs : List Value} (h : RowAt w b vs) (j : Nat) (v : Value) (hj : j < vs.length) : RowAt (w.setCell ⟨b, j, none⟩ v) b (vs.set j v) := by
  have e : vs = vs.take j ++ ([vs[j]] ++ vs.drop (j + 1)) := by rw [List.singleton_append, List.getElem_cons_drop, List.take_append_drop]
  have h0 := h
  rw [e] at h0
  have h1 := h0.splice (vs := [v]) rfl
  rw [List.length_take, show min j vs.length = j by omega, setCells_one] at h1
  rw [List.set_eq_take_append_cons_drop, if_pos hj]
  exact h1
theorem arT : RowT 115 5 := ⟨⟨_, Try.underlying115, rfl⟩, by kernel_rfl⟩
namespace V
theorem unsets_some {s : St} : ∀ (n i j : Nat), j < n → (s.r ((i + j : Nat) : Int)).un = true → unsets s i n = true
  | 0, _, j, hj, _ => by omega
  | n + 1, i, j, hj, h => by
    unfold unsets
    cases j with
    | zero => rw [Nat.add_zero] at h; rw [h]; rfl
    | succ j =>
      rw [unsets_some n (i + 1) j (by omega) (by rw [show i + 1 + j = i + (j + 1) by omega]; exact h), Bool.or_true]
theorem unsets_none {s : St} : ∀ (n i : Nat), (∀ j, j < n → (s.r ((i + j : Nat) : Int)).un = false) → unsets s i n = false
  | 0, _, _ => rfl
  | n + 1, i, h => by
    unfold unsets
    have h0 := h 0 (by omega)
    rw [Nat.add_zero] at h0
    rw [h0, unsets_none n (i + 1) (fun j hj => by rw [show i + 1 + j = i + (j + 1) by omega]; exact h (j + 1) (by omega))]
    rfl
def isNum : Cell → Bool
  | .num _ => true
  | _ => false
theorem nonums_some {s : St} : ∀ (n i j : Nat), j < n → isNum (s.r ((i + j : Nat) : Int)) = false → nonums s i n = true
  | 0, _, j, hj, _ => by omega
  | n + 1, i, j, hj, h => by
    unfold nonums
    cases j with
    | zero =>
      rw [Nat.add_zero] at h
      generalize s.r (i : Int) = c at h
      cases c with
      | no => rfl
      | num n => cases h
      | ref k m => rfl
    | succ j =>
      rw [nonums_some n (i + 1) j (by omega) (by rw [show i + 1 + j = i + (j + 1) by omega]; exact h), Bool.or_true]
theorem nonums_none {s : St} : ∀ (n i : Nat), (∀ j, j < n → isNum (s.r ((i + j : Nat) : Int)) = true) → nonums s i n = false
  | 0, _, _ => rfl
  | n + 1, i, h => by
    unfold nonums
    have h0 := h 0 (by omega)
    rw [Nat.add_zero] at h0
    rw [nonums_none n (i + 1) (fun j hj => by rw [show i + 1 + j = i + (j + 1) by omega]; exact h (j + 1) (by omega)), Bool.or_false]
    generalize s.r (i : Int) = c at h0
    cases c with
    | no => cases h0
    | num n => rfl
    | ref k m => cases h0
theorem isNum_nm {c : Cell} (h : isNum c = true) : c.nm = .ok c.n0 := by cases c <;> first | rfl | cases h
theorem notNum_nm {c : Cell} (h : isNum c = false) (hu : c.un = false) : c.nm = .error 4 := by
  cases c with
  | no => cases hu
  | num n => cases h
  | ref k m => rfl
/-- the arguments' row, as far as it is filled -/
def argK (s : St) (k : Nat) : List Int := (List.range 5).map fun j => if j < k then num0 s ((1 + j : Nat) : Int) else 0
theorem argK_len (s : St) (k : Nat) : (argK s k).length = 5 := by simp [argK]
theorem argK_set (s : St) (k : Nat) (hk : k < 5) : (argK s k).set k (num0 s ((1 + k : Nat) : Int)) = argK s (k + 1) := by
  apply List.ext_getElem?
  intro j
  by_cases hj : j < 5
  · by_cases e : k = j
    · subst e
      rw [List.getElem?_set_self (by rw [argK_len]; exact hj)]
      simp [argK, hj]
    · rw [List.getElem?_set_ne e]
      unfold argK
      rw [List.getElem?_map, List.getElem?_map, List.getElem?_range hj]
      simp only [Option.map_some]
      by_cases h1 : j < k
      · rw [if_pos h1, if_pos (by omega)]
      · rw [if_neg h1, if_neg (by omega)]
  · rw [List.getElem?_eq_none (by rw [List.length_set, argK_len]; omega), List.getElem?_eq_none (by rw [argK_len]; omega)]
theorem argK_zero (s : St) : argK s 0 = [0, 0, 0, 0, 0] := rfl
end V
def argsF (s : V.St) (n : Nat) : Except Nat (List Int) := if unsets s 1 n then .error 3 else if nonums s 1 n then .error 4 else .ok (argK s n)
def argsV (l : List Int) : Value := .agg (intV l).toArray
section
variable {E : Ev} {S : Nat → Prop} {s : V.St} {W : World}
set_option maxHeartbeats 2000000 in
theorem args_run (h : RunAt E S s W) (n : Nat) (hn : n ≤ 5) : Calls Try.prog 68 #[.pointer (some ⟨E.R, 0, none⟩), .int .i64 (n : Int)] W (Rd W argsV (argsF s n)) := by
  have H := Lib.hid h
  obtain ⟨X, hX⟩ : ∃ X, Hid (argsF s n = X) := ⟨_, Lib.hid rfl⟩
  rw [hX.out]
  have HN5 := Lib.hid hn
  have R4 := Lib.hid (rowAt_new W [.int .i64 0, .int .i64 0, .int .i64 0, .int .i64 0, .int .i64 0] 115)
  have HB := Lib.hid (below_new W (.cells #[.int .i64 0, .int .i64 0, .int .i64 0, .int .i64 0, .int .i64 0] 115))
  clear h
  go_enter Try.func68, Try.ntmps68
  go_upto_region 1 with fail
  generalize World.alloc _ _ = W1 at R4 HB ⊢
  go_wp2
  go_loopw [5, 9] (fun _ i wr => ∃ k : Nat, k ≤ n ∧ i = .int .i64 (k : Int) ∧ Hid (RowAt wr W.heap.size [.int .i64 0, .int .i64 0, .int .i64 0, .int .i64 0, .int .i64 0]) ∧ Hid (Below W.heap.size W wr) ∧ Hid (∀ j, j < k → (s.r ((1 + j : Nat) : Int)).un = false)) (fun _ i _ => n - (intOf i).toNat)
  case atStart => exact ⟨0, Nat.zero_le _, rfl, R4, HB, Lib.hid (fun j hj => by omega)⟩
  case round =>
    obtain ⟨k, hk, rfl, R, B, U⟩ := hrel
    clear R4 HB
    by_cases hlt : k < n
    · have hk0 : (0 : Int) ≤ (k : Int) := by omega
      have hk1 : (k : Int) < (n : Int) := by omega
      have hw : IntKind.i64.wrap (1 + (k : Int)) = ((1 + k : Nat) : Int) := by rw [IntKind.wrap_i64]; omega
      have h8 : 0 ≤ ((1 + k : Nat) : Int) ∧ ((1 + k : Nat) : Int) < 8 := by omega
      cases hu : (s.r ((1 + k : Nat) : Int)).un with
      | true =>
        have HA := Lib.hid (askSet1_no (H.out.step B.out) _ h8 hu)
        have HQ : Hid (X = .error 3) := Lib.hid (by rw [← hX.out]; unfold argsF; rw [if_pos (V.unsets_some n 1 k hlt hu)])
        clear hu h8
        go_wp2_with (go_at_call 50; refine (HA.out _).mono ?_; rintro e w2 ⟨rfl, hb⟩; exact ⟨rfl, by rw [HQ.out]; rfl, B.out.trans (hb.mono B.out.size)⟩)
      | false =>
        have HA := Lib.hid (askSet1_ok (H.out.step B.out) _ h8 hu)
        have HU := Lib.hid hu
        clear hu h8
        go_wp2_with (go_at_call 50; refine (HA.out _).mono ?_; rintro e w2 ⟨rfl, hb⟩; have B2 := HidB B hb; have R2 := Lib.hid (RowAt.step (v := .int .i64 0) (vs := [.int .i64 0, .int .i64 0, .int .i64 0, .int .i64 0]) R.out hb); clear hb)
        go_roundw
        case rel => exact ⟨k + 1, by omega, by go_num, R2, B2, Lib.hid (fun j hj => by
          by_cases e : j = k
          · rw [e]; exact HU.out
          · exact U.out j (by omega))⟩
        case measure => (simp [intOf] <;> omega)
    · obtain rfl : k = n := by omega
      clear hlt
      have HU : Hid (unsets s 1 k = false) := Lib.hid (V.unsets_none k 1 U.out)
      go_upto_region 7 with fail
      have R6 : Hid (RowAt (wr.alloc (.cells #[.int .i64 0, .int .i64 0, .int .i64 0, .int .i64 0, .int .i64 0] 115)) wr.heap.size (intV (argK s 0))) := Lib.hid (rowAt_new wr [.int .i64 0, .int .i64 0, .int .i64 0, .int .i64 0, .int .i64 0] _)
      have R4 := Lib.hid (R.out.alloc (.cells #[.int .i64 0, .int .i64 0, .int .i64 0, .int .i64 0, .int .i64 0] 115))
      have B4 := HidB B (below_new wr (.cells #[.int .i64 0, .int .i64 0, .int .i64 0, .int .i64 0, .int .i64 0] 115))
      have HNE : Hid (W.heap.size < wr.heap.size) := Lib.hid (RowAt.lt R.out)
      clear R B
      generalize World.alloc _ _ = W2 at R6 R4 B4 ⊢
      generalize wr.heap.size = b6 at R6 HNE ⊢
      go_wp2
      go_loopw [7, 19] (fun _ i wr => ∃ q : Nat, q ≤ k ∧ i = .int .i64 (q : Int) ∧ Hid (RowAt wr W.heap.size [.int .i64 0, .int .i64 0, .int .i64 0, .int .i64 0, .int .i64 0]) ∧ Hid (RowAt wr b6 (intV (argK s q))) ∧ Hid (Below W.heap.size W wr) ∧ Hid (∀ j, j < q → isNum (s.r ((1 + j : Nat) : Int)) = true)) (fun _ i _ => k - (intOf i).toNat)
      case atStart => exact ⟨0, Nat.zero_le _, rfl, R4, R6, B4, Lib.hid (fun j hj => by omega)⟩
      case round =>
        obtain ⟨q, hq, rfl, R, R6', B, U2⟩ := hrel
        clear R4 R6 B4
        have HK5 := HN5
        by_cases hlt : q < k
        · have hk0 : (0 : Int) ≤ (q : Int) := by omega
          have hk1 : (q : Int) < (k : Int) := by omega
          have hq5 : (q : Int) < 5 := by have := HK5.out; omega
          have hw : IntKind.i64.wrap (1 + (q : Int)) = ((1 + q : Nat) : Int) := by rw [IntKind.wrap_i64]; have := HK5.out; omega
          have h8 : 0 ≤ ((1 + q : Nat) : Int) ∧ ((1 + q : Nat) : Int) < 8 := by have := HK5.out; omega
          cases hu : isNum (s.r ((1 + q : Nat) : Int)) with
          | false =>
            have HA := Lib.hid (number_no (H.out.step B.out) _ h8 (V.notNum_nm hu (U.out q hlt)))
            have HQ : Hid (X = .error 4) := Lib.hid (by rw [← hX.out]; unfold argsF; rw [if_neg (by rw [HU.out]; decide), if_pos (V.nonums_some k 1 q hlt hu)])
            clear hu h8
            go_wp2_with (go_at_call 53; refine (HA.out).mono ?_; rintro e w2 ⟨rfl, hb⟩; exact ⟨rfl, by rw [HQ.out]; rfl, B.out.trans (hb.mono B.out.size)⟩)
          | true =>
            have HA := Lib.hid (number_ok (H.out.step B.out) _ h8 (V.isNum_nm hu))
            have HU1 := Lib.hid hu
            obtain ⟨v, hv⟩ : ∃ v, Hid ((s.r ((1 + q : Nat) : Int)).n0 = v) := ⟨_, Lib.hid rfl⟩
            rw [hv.out] at HA
            have HL : Hid (q < (intV (argK s q)).length) := Lib.hid (by unfold intV; rw [List.length_map, argK_len]; have := HK5.out; omega)
            have HBL : Hid (b6 < wr.heap.size) := Lib.hid (World.block_lt_of_cell? wr _ (R6'.out.cell q _ (List.getElem?_eq_getElem HL.out)))
            clear hu h8
            go_wp2_with (go_at_call 53; refine (HA.out).mono ?_; rintro e w2 ⟨rfl, hb⟩; have B2 := HidB B hb; have R2 := Lib.hid (RowAt.step (v := .int .i64 0) (vs := [.int .i64 0, .int .i64 0, .int .i64 0, .int .i64 0]) R.out hb); have R3 := Lib.hid (R6'.out.below hb HBL.out); have cq := R3.out.cell q _ (List.getElem?_eq_getElem HL.out); have fq := R3.out.frozen q HL.out; clear hb)
            have B3 : Hid (Below W.heap.size W (w2.setCell ⟨b6, q, none⟩ (.int .i64 v))) := Lib.hid (B2.out.setCell (p := ⟨b6, q, none⟩) (Nat.le_of_lt HNE.out) _)
            have R4' : Hid (RowAt (w2.setCell ⟨b6, q, none⟩ (.int .i64 v)) W.heap.size [.int .i64 0, .int .i64 0, .int .i64 0, .int .i64 0, .int .i64 0]) := Lib.hid (R2.out.put_other b6 q [.int .i64 v] (by have := HNE.out; omega))
            have R5 : Hid (RowAt (w2.setCell ⟨b6, q, none⟩ (.int .i64 v)) b6 (intV (argK s (q + 1)))) := Lib.hid (by
              have h1 := R3.out.setOne q (.int .i64 v) HL.out
              rw [← V.argK_set s q (by have := HK5.out; omega), intV_set]
              unfold V.num0
              rw [hv.out]
              exact h1)
            go_roundw
            case rel => exact ⟨q + 1, by omega, by go_num, R4', R5, B3, Lib.hid (fun j hj => by
              by_cases e : j = q
              · rw [e]; exact HU1.out
              · exact U2.out j (by omega))⟩
            case measure => (simp [intOf] <;> omega)
        · obtain rfl : q = k := by omega
          clear hlt
          have HQ : Hid (X = .ok (argK s q)) := Lib.hid (by rw [← hX.out]; unfold argsF; rw [if_neg (by rw [HU.out]; decide), if_neg (by rw [V.nonums_none q 1 U2.out]; decide)])
          have HL5 : Hid ((intV (argK s q)).length = 5) := Lib.hid (by unfold intV; rw [List.length_map, argK_len])
          have HO := Lib.hid (intV_one (argK s q))
          have HV : Hid (argsV (argK s q) = .agg (intV (argK s q)).toArray) := Lib.hid rfl
          generalize argK s q = L at HQ HL5 HO R6' HV
          generalize intV L = L2 at HL5 HO R6' HV
          go_wp2_with (first
            | (with_reducible refine wpList_load_row arT R6'.out HL5.out rfl (.tmp 6) rfl rfl ?_)
            | ((with_reducible refine wpList_store_row arT R.out rfl HL5.out HO.out rfl (.tmp 4) (.tmp 29) rfl ?_ ?_ ?_); (exact rfl); (exact rfl)))
          exact bodyPost_ret (results_row arT _ 4 rfl _ (R.out.put _ HL5.out) HL5.out rfl) rfl ⟨by rw [HQ.out]; show _ = Ending.returned (argsV L); rw [HV.out], below_setCells _ (Nat.le_refl _) _ _ _ B.out⟩
theorem args_no (h : RunAt E S s W) (n : Nat) (hn : n ≤ 5) {y : Nat} (hy : argsF s n = .error y) : Calls Try.prog 68 #[.pointer (some ⟨E.R, 0, none⟩), .int .i64 (n : Int)] W fun e w' => e = whyE y ∧ Below W.heap.size W w' := by
  have := args_run h n hn
  rw [hy] at this
  exact this
theorem args_ok (h : RunAt E S s W) (n : Nat) (hn : n ≤ 5) (hu : unsets s 1 n = false) (hm : nonums s 1 n = false) : ∃ a0 a1 a2 a3 a4 : Int, argK s n = [a0, a1, a2, a3, a4] ∧ Calls Try.prog 68 #[.pointer (some ⟨E.R, 0, none⟩), .int .i64 (n : Int)] W fun e w' => e = .returned (.agg #[.int .i64 a0, .int .i64 a1, .int .i64 a2, .int .i64 a3, .int .i64 a4]) ∧ Below W.heap.size W w' := by
  refine ⟨_, _, _, _, _, rfl, ?_⟩
  have := args_run h n hn
  unfold argsF at this
  rw [hu, hm] at this
  exact this
end
end Go.Proofs.Ythngbakbiocadaa

/-
  What a helper answers.
-/
namespace Go.Proofs.Ythngbakbiocadaa
set_option maxRecDepth 100000
open Go.ChangeShapes Go.WideShapes Go.ChangeAt Go.RowKit Go.Maps
open V
section
variable {E : Ev} {S : Nat → Prop} {s t : V.St} {W : World}
theorem RunAt.ownLt (h : RunAt E S s W) {k : Nat} (hk : Own E S k) : k < W.heap.size := by
  rcases hk with hk | rfl | rfl
  · exact h.st.lt hk
  · exact h.Rlt
  · exact h.Flt
/-- a new row outlives what a call makes of the run -/
theorem RunTo.row {W' : World} (h : RunTo E S W t W') {b : Nat} {v : Value} {vs : List Value} (hr : RowAt W b (v :: vs)) (hn : ¬ Own E S b) : RowAt W' b (v :: vs) := by
  obtain ⟨S', _, h2, _⟩ := h
  exact hr.but h2 hn
theorem RunTo.size {W' : World} (h : RunTo E S W t W') : W.heap.size ≤ W'.heap.size := by
  obtain ⟨S', _, h2, _⟩ := h
  exact h2.size
/-- a new block is written behind a call -/
theorem RunTo.write {Wc W' W'' : World} (h0 : RunAt E S s W) (hb : Below W.heap.size W Wc) (h : RunTo E S Wc t W') {b : Nat} (hbl : W.heap.size ≤ b) (hbc : b < Wc.heap.size) (hbut : But (fun k => k = b) W' W'') : RunTo E S W t W'' := by
  obtain ⟨S', h1, h2, h3⟩ := h
  have hS : ¬ S' b := fun hs => by
    rcases h3 b hs with e | e
    · have := h0.st.lt e; omega
    · omega
  have hR : b ≠ E.R := fun e => by have := h0.Rlt; omega
  have hF : b ≠ E.F := fun e => by have := h0.Flt; omega
  refine ⟨S', ⟨h1.row.of_block (hbut.block _ h1.Rlt (Ne.symm hR)), h1.fld.of_block (hbut.block _ h1.Flt (Ne.symm hF)), h1.st.keep hbut (fun k e hs => hS (e ▸ hs)), h1.low.trans (hbut.below h1.low.size (fun x e => by rw [e]; exact Nat.le_trans h0.low.size hbl)), Nat.le_trans h1.hb hbut.size, Nat.lt_of_lt_of_le h1.Rlt hbut.size, Nat.lt_of_lt_of_le h1.Flt hbut.size, h1.nR, h1.nF, h1.wf⟩, ((But.of_below (S := Own E S) hb).trans h2 (fun x hx => Or.inl hx)).trans hbut (fun x e => Or.inr (by rw [e]; exact hbl)), fun k hk => ?_⟩
  rcases h3 k hk with e | e
  · exact Or.inl e
  · exact Or.inr (Nat.le_trans hb.size e)
set_option maxHeartbeats 2000000 in
theorem help_yes (h : RunAt E S s W) (g : Nat) (a0 a1 a2 a3 a4 : Int) (x0 x1 x2 x3 : Int) (hh : ∀ W', Below W.heap.size W W' → Calls Try.prog 74 #[.pointer (some ⟨g, 0, none⟩), .int .i64 a1] W' fun e w' => e = .returned (.tuple #[.agg #[.int .i64 x0, .int .i64 x1, .int .i64 x2, .int .i64 x3], .bool true]) ∧ RunTo E S W' t w') : Calls Try.prog 69 #[.int .i64 1, .pointer (some ⟨g, 0, none⟩), .agg #[.int .i64 a0, .int .i64 a1, .int .i64 a2, .int .i64 a3, .int .i64 a4]] W fun e w' => e = .returned (.agg #[.int .i64 2, .int .i64 a1, .pointer (some ⟨g, 0, none⟩)]) ∧ RunTo E S W t w' := by
  have HH := Lib.hid hh
  clear hh
  have H := Lib.hid h
  have R5 := Lib.hid ((rowAt_new W [.int .i64 a0, .int .i64 a1, .int .i64 a2, .int .i64 a3, .int .i64 a4] 115).alloc (.cells #[.int .i64 0, .int .i64 0, .pointer none] 79))
  have R6 : Hid (RowAt ((W.alloc (.cells #[.int .i64 a0, .int .i64 a1, .int .i64 a2, .int .i64 a3, .int .i64 a4] 115)).alloc (.cells #[.int .i64 0, .int .i64 0, .pointer none] 79)) (W.heap.size + 1) [.int .i64 0, .int .i64 0, .pointer none]) := Lib.hid (by
    have := rowAt_new (W.alloc (.cells #[.int .i64 a0, .int .i64 a1, .int .i64 a2, .int .i64 a3, .int .i64 a4] 115)) [.int .i64 0, .int .i64 0, .pointer none] 79
    rwa [World.size_alloc] at this)
  have HB := Lib.hid ((below_new W (.cells #[.int .i64 a0, .int .i64 a1, .int .i64 a2, .int .i64 a3, .int .i64 a4] 115)).trans ((below_new _ (.cells #[.int .i64 0, .int .i64 0, .pointer none] 79)).mono (below_new W _).size))
  have HZ : Hid (((W.alloc (.cells #[.int .i64 a0, .int .i64 a1, .int .i64 a2, .int .i64 a3, .int .i64 a4] 115)).alloc (.cells #[.int .i64 0, .int .i64 0, .pointer none] 79)).heap.size = W.heap.size + 2) := Lib.hid (by rw [World.size_alloc, World.size_alloc])
  have HNO : Hid (¬ Own E S (W.heap.size + 1)) := Lib.hid (fun hk => by have := h.ownLt hk; omega)
  clear h
  have HO : Hid (∀ v ∈ ([.int .i64 2, .int .i64 a1, .pointer (some ⟨g, 0, none⟩)] : List Value), v.oneCell' = true) := Lib.hid (cellL_one [g] (.ref a1 0))
  go_enter Try.func69, Try.ntmps69
  go_upto_region 1 with fail
  generalize World.alloc _ _ = W1 at R5 R6 HB HZ ⊢
  have d1 := R5.out.cell 1 _ rfl
  have d2 := R5.out.cell 2 _ rfl
  have d3 := R5.out.cell 3 _ rfl
  go_wp2_with (first
    | (go_at_call 74; (with_reducible refine (HH.out _ HB.out).mono ?_); rintro e w3 ⟨rfl, hto⟩; have HT := Lib.hid hto; have R6' := Lib.hid (RunTo.row hto R6.out HNO.out); clear hto d1 d2 d3; have R6'' := Lib.hid (R6'.out.alloc (.cells #[.int .i64 x0, .int .i64 x1, .int .i64 x2, .int .i64 x3] 60)))
    | ((with_reducible refine wpList_store_row vvT R6''.out rfl (vs := [.int .i64 2, .int .i64 a1, .pointer (some ⟨g, 0, none⟩)]) rfl HO.out rfl (.tmp 6) (.tmp 24) rfl ?_ ?_ ?_); (exact rfl); (exact rfl)))
  exact bodyPost_ret (results_row vvT _ 6 rfl _ (R6''.out.put _ rfl) rfl rfl) rfl ⟨rfl, RunTo.write H.out HB.out (HT.out.step (below_new _ _)) (Nat.le_succ _) (by rw [HZ.out]; omega) (But.setCells _ _ _ _)⟩
set_option maxHeartbeats 2000000 in
theorem help_none (h : RunAt E S s W) (g : Nat) (a0 a1 a2 a3 a4 : Int) (x0 x1 x2 x3 : Int) (hh : ∀ W', Below W.heap.size W W' → Calls Try.prog 74 #[.pointer (some ⟨g, 0, none⟩), .int .i64 a1] W' fun e w' => e = .returned (.tuple #[.agg #[.int .i64 x0, .int .i64 x1, .int .i64 x2, .int .i64 x3], .bool false]) ∧ RunTo E S W' t w') : Calls Try.prog 69 #[.int .i64 1, .pointer (some ⟨g, 0, none⟩), .agg #[.int .i64 a0, .int .i64 a1, .int .i64 a2, .int .i64 a3, .int .i64 a4]] W fun e w' => e = .returned (.agg #[.int .i64 1, .int .i64 0, .pointer none]) ∧ RunTo E S W t w' := by
  have HH := Lib.hid hh
  clear hh
  have H := Lib.hid h
  have R5 := Lib.hid ((rowAt_new W [.int .i64 a0, .int .i64 a1, .int .i64 a2, .int .i64 a3, .int .i64 a4] 115).alloc (.cells #[.int .i64 0, .int .i64 0, .pointer none] 79))
  have R6 : Hid (RowAt ((W.alloc (.cells #[.int .i64 a0, .int .i64 a1, .int .i64 a2, .int .i64 a3, .int .i64 a4] 115)).alloc (.cells #[.int .i64 0, .int .i64 0, .pointer none] 79)) (W.heap.size + 1) [.int .i64 0, .int .i64 0, .pointer none]) := Lib.hid (by
    have := rowAt_new (W.alloc (.cells #[.int .i64 a0, .int .i64 a1, .int .i64 a2, .int .i64 a3, .int .i64 a4] 115)) [.int .i64 0, .int .i64 0, .pointer none] 79
    rwa [World.size_alloc] at this)
  have HB := Lib.hid ((below_new W (.cells #[.int .i64 a0, .int .i64 a1, .int .i64 a2, .int .i64 a3, .int .i64 a4] 115)).trans ((below_new _ (.cells #[.int .i64 0, .int .i64 0, .pointer none] 79)).mono (below_new W _).size))
  have HZ : Hid (((W.alloc (.cells #[.int .i64 a0, .int .i64 a1, .int .i64 a2, .int .i64 a3, .int .i64 a4] 115)).alloc (.cells #[.int .i64 0, .int .i64 0, .pointer none] 79)).heap.size = W.heap.size + 2) := Lib.hid (by rw [World.size_alloc, World.size_alloc])
  have HNO : Hid (¬ Own E S (W.heap.size + 1)) := Lib.hid (fun hk => by have := h.ownLt hk; omega)
  clear h
  have HO : Hid (∀ v ∈ ([.int .i64 1, .int .i64 0, .pointer none] : List Value), v.oneCell' = true) := Lib.hid (num_one 0)
  go_enter Try.func69, Try.ntmps69
  go_upto_region 1 with fail
  generalize World.alloc _ _ = W1 at R5 R6 HB HZ ⊢
  have d1 := R5.out.cell 1 _ rfl
  have d2 := R5.out.cell 2 _ rfl
  have d3 := R5.out.cell 3 _ rfl
  go_wp2_with (first
    | (go_at_call 74; (with_reducible refine (HH.out _ HB.out).mono ?_); rintro e w3 ⟨rfl, hto⟩; have HT := Lib.hid hto; have R6' := Lib.hid (RunTo.row hto R6.out HNO.out); clear hto d1 d2 d3; have R6'' := Lib.hid (R6'.out.alloc (.cells #[.int .i64 x0, .int .i64 x1, .int .i64 x2, .int .i64 x3] 60)))
    | ((with_reducible refine wpList_store_row vvT R6''.out rfl (vs := [.int .i64 1, .int .i64 0, .pointer none]) rfl HO.out rfl (.tmp 6) (.tmp 25) rfl ?_ ?_ ?_); (exact rfl); (exact rfl)))
  exact bodyPost_ret (results_row vvT _ 6 rfl _ (R6''.out.put _ rfl) rfl rfl) rfl ⟨rfl, RunTo.write H.out HB.out (HT.out.step (below_new _ _)) (Nat.le_succ _) (by rw [HZ.out]; omega) (But.setCells _ _ _ _)⟩
set_option maxHeartbeats 2000000 in
theorem help_count (h : RunAt E S s W) (g : Nat) (a0 a1 a2 a3 a4 : Int) (c : Int) (hh : ∀ W', Below W.heap.size W W' → Calls Try.prog 20 #[.pointer (some ⟨g, 0, none⟩)] W' fun e w' => e = .returned (.int .i64 c) ∧ RunTo E S W' t w') : Calls Try.prog 69 #[.int .i64 2, .pointer (some ⟨g, 0, none⟩), .agg #[.int .i64 a0, .int .i64 a1, .int .i64 a2, .int .i64 a3, .int .i64 a4]] W fun e w' => e = .returned (.agg #[.int .i64 1, .int .i64 c, .pointer none]) ∧ RunTo E S W t w' := by
  have HH := Lib.hid hh
  clear hh
  have H := Lib.hid h
  have R5 := Lib.hid ((rowAt_new W [.int .i64 a0, .int .i64 a1, .int .i64 a2, .int .i64 a3, .int .i64 a4] 115).alloc (.cells #[.int .i64 0, .int .i64 0, .pointer none] 79))
  have R6 : Hid (RowAt ((W.alloc (.cells #[.int .i64 a0, .int .i64 a1, .int .i64 a2, .int .i64 a3, .int .i64 a4] 115)).alloc (.cells #[.int .i64 0, .int .i64 0, .pointer none] 79)) (W.heap.size + 1) [.int .i64 0, .int .i64 0, .pointer none]) := Lib.hid (by
    have := rowAt_new (W.alloc (.cells #[.int .i64 a0, .int .i64 a1, .int .i64 a2, .int .i64 a3, .int .i64 a4] 115)) [.int .i64 0, .int .i64 0, .pointer none] 79
    rwa [World.size_alloc] at this)
  have HB := Lib.hid ((below_new W (.cells #[.int .i64 a0, .int .i64 a1, .int .i64 a2, .int .i64 a3, .int .i64 a4] 115)).trans ((below_new _ (.cells #[.int .i64 0, .int .i64 0, .pointer none] 79)).mono (below_new W _).size))
  have HZ : Hid (((W.alloc (.cells #[.int .i64 a0, .int .i64 a1, .int .i64 a2, .int .i64 a3, .int .i64 a4] 115)).alloc (.cells #[.int .i64 0, .int .i64 0, .pointer none] 79)).heap.size = W.heap.size + 2) := Lib.hid (by rw [World.size_alloc, World.size_alloc])
  have HNO : Hid (¬ Own E S (W.heap.size + 1)) := Lib.hid (fun hk => by have := h.ownLt hk; omega)
  clear h
  have HO : Hid (∀ v ∈ ([.int .i64 1, .int .i64 c, .pointer none] : List Value), v.oneCell' = true) := Lib.hid (num_one c)
  go_enter Try.func69, Try.ntmps69
  go_upto_region 1 with fail
  generalize World.alloc _ _ = W1 at R5 R6 HB HZ ⊢
  have d1 := R5.out.cell 1 _ rfl
  have d2 := R5.out.cell 2 _ rfl
  have d3 := R5.out.cell 3 _ rfl
  go_wp2_with (first
    | (go_at_call 20; (with_reducible refine (HH.out _ HB.out).mono ?_); rintro e w3 ⟨rfl, hto⟩; have HT := Lib.hid hto; have R6' := Lib.hid (RunTo.row hto R6.out HNO.out); clear hto d1 d2 d3)
    | ((with_reducible refine wpList_store_row vvT R6'.out rfl (vs := [.int .i64 1, .int .i64 c, .pointer none]) rfl HO.out rfl (.tmp 6) (.tmp 30) rfl ?_ ?_ ?_); (exact rfl); (exact rfl)))
  exact bodyPost_ret (results_row vvT _ 6 rfl _ (R6'.out.put _ rfl) rfl rfl) rfl ⟨rfl, RunTo.write H.out HB.out (HT.out) (Nat.le_succ _) (by rw [HZ.out]; omega) (But.setCells _ _ _ _)⟩
set_option maxHeartbeats 2000000 in
theorem help_put (h : RunAt E S s W) (g : Nat) (a0 a1 a2 a3 a4 : Int) (c : Int) (hc : 0 ≤ c ∧ c ≤ 1000) (hh : ∀ W', Below W.heap.size W W' → Calls Try.prog 25 #[.pointer (some ⟨g, 0, none⟩), .int .i64 a1, .agg #[.int .i64 a2, .int .i64 a3, .int .i64 0, .int .i64 0]] W' fun e w' => e = .returned (.int .i64 c) ∧ RunTo E S W' t w') : Calls Try.prog 69 #[.int .i64 3, .pointer (some ⟨g, 0, none⟩), .agg #[.int .i64 a0, .int .i64 a1, .int .i64 a2, .int .i64 a3, .int .i64 a4]] W fun e w' => e = .returned (.agg #[.int .i64 1, .int .i64 (-c), .pointer none]) ∧ RunTo E S W t w' := by
  have HH := Lib.hid hh
  clear hh
  have H := Lib.hid h
  have R5 := Lib.hid ((rowAt_new W [.int .i64 a0, .int .i64 a1, .int .i64 a2, .int .i64 a3, .int .i64 a4] 115).alloc (.cells #[.int .i64 0, .int .i64 0, .pointer none] 79))
  have R6 : Hid (RowAt ((W.alloc (.cells #[.int .i64 a0, .int .i64 a1, .int .i64 a2, .int .i64 a3, .int .i64 a4] 115)).alloc (.cells #[.int .i64 0, .int .i64 0, .pointer none] 79)) (W.heap.size + 1) [.int .i64 0, .int .i64 0, .pointer none]) := Lib.hid (by
    have := rowAt_new (W.alloc (.cells #[.int .i64 a0, .int .i64 a1, .int .i64 a2, .int .i64 a3, .int .i64 a4] 115)) [.int .i64 0, .int .i64 0, .pointer none] 79
    rwa [World.size_alloc] at this)
  have HB := Lib.hid ((below_new W (.cells #[.int .i64 a0, .int .i64 a1, .int .i64 a2, .int .i64 a3, .int .i64 a4] 115)).trans ((below_new _ (.cells #[.int .i64 0, .int .i64 0, .pointer none] 79)).mono (below_new W _).size))
  have HZ : Hid (((W.alloc (.cells #[.int .i64 a0, .int .i64 a1, .int .i64 a2, .int .i64 a3, .int .i64 a4] 115)).alloc (.cells #[.int .i64 0, .int .i64 0, .pointer none] 79)).heap.size = W.heap.size + 2) := Lib.hid (by rw [World.size_alloc, World.size_alloc])
  have HNO : Hid (¬ Own E S (W.heap.size + 1)) := Lib.hid (fun hk => by have := h.ownLt hk; omega)
  clear h
  have hw : IntKind.i64.wrap (-c) = -c := by rw [IntKind.wrap_i64]; omega
  have HO : Hid (∀ v ∈ ([.int .i64 1, .int .i64 (-c), .pointer none] : List Value), v.oneCell' = true) := Lib.hid (num_one (-c))
  go_enter Try.func69, Try.ntmps69
  go_upto_region 1 with fail
  generalize World.alloc _ _ = W1 at R5 R6 HB HZ ⊢
  have d1 := R5.out.cell 1 _ rfl
  have d2 := R5.out.cell 2 _ rfl
  have d3 := R5.out.cell 3 _ rfl
  go_wp2_with (first
    | (go_at_call 25; (with_reducible refine (HH.out _ HB.out).mono ?_); rintro e w3 ⟨rfl, hto⟩; have HT := Lib.hid hto; have R6' := Lib.hid (RunTo.row hto R6.out HNO.out); clear hto d1 d2 d3)
    | ((with_reducible refine wpList_store_row vvT R6'.out rfl (vs := [.int .i64 1, .int .i64 (-c), .pointer none]) rfl HO.out rfl (.tmp 6) (.tmp 42) rfl ?_ ?_ ?_); (exact rfl); (exact rfl)))
  exact bodyPost_ret (results_row vvT _ 6 rfl _ (R6'.out.put _ rfl) rfl rfl) rfl ⟨rfl, RunTo.write H.out HB.out (HT.out) (Nat.le_succ _) (by rw [HZ.out]; omega) (But.setCells _ _ _ _)⟩
set_option maxHeartbeats 2000000 in
theorem help_drop (h : RunAt E S s W) (g : Nat) (a0 a1 a2 a3 a4 : Int) (c : Int) (hc : 0 ≤ c ∧ c ≤ 1000) (hh : ∀ W', Below W.heap.size W W' → Calls Try.prog 75 #[.pointer (some ⟨g, 0, none⟩), .int .i64 a1] W' fun e w' => e = .returned (.int .i64 c) ∧ RunTo E S W' t w') : Calls Try.prog 69 #[.int .i64 4, .pointer (some ⟨g, 0, none⟩), .agg #[.int .i64 a0, .int .i64 a1, .int .i64 a2, .int .i64 a3, .int .i64 a4]] W fun e w' => e = .returned (.agg #[.int .i64 1, .int .i64 (-c), .pointer none]) ∧ RunTo E S W t w' := by
  have HH := Lib.hid hh
  clear hh
  have H := Lib.hid h
  have R5 := Lib.hid ((rowAt_new W [.int .i64 a0, .int .i64 a1, .int .i64 a2, .int .i64 a3, .int .i64 a4] 115).alloc (.cells #[.int .i64 0, .int .i64 0, .pointer none] 79))
  have R6 : Hid (RowAt ((W.alloc (.cells #[.int .i64 a0, .int .i64 a1, .int .i64 a2, .int .i64 a3, .int .i64 a4] 115)).alloc (.cells #[.int .i64 0, .int .i64 0, .pointer none] 79)) (W.heap.size + 1) [.int .i64 0, .int .i64 0, .pointer none]) := Lib.hid (by
    have := rowAt_new (W.alloc (.cells #[.int .i64 a0, .int .i64 a1, .int .i64 a2, .int .i64 a3, .int .i64 a4] 115)) [.int .i64 0, .int .i64 0, .pointer none] 79
    rwa [World.size_alloc] at this)
  have HB := Lib.hid ((below_new W (.cells #[.int .i64 a0, .int .i64 a1, .int .i64 a2, .int .i64 a3, .int .i64 a4] 115)).trans ((below_new _ (.cells #[.int .i64 0, .int .i64 0, .pointer none] 79)).mono (below_new W _).size))
  have HZ : Hid (((W.alloc (.cells #[.int .i64 a0, .int .i64 a1, .int .i64 a2, .int .i64 a3, .int .i64 a4] 115)).alloc (.cells #[.int .i64 0, .int .i64 0, .pointer none] 79)).heap.size = W.heap.size + 2) := Lib.hid (by rw [World.size_alloc, World.size_alloc])
  have HNO : Hid (¬ Own E S (W.heap.size + 1)) := Lib.hid (fun hk => by have := h.ownLt hk; omega)
  clear h
  have hw : IntKind.i64.wrap (-c) = -c := by rw [IntKind.wrap_i64]; omega
  have HO : Hid (∀ v ∈ ([.int .i64 1, .int .i64 (-c), .pointer none] : List Value), v.oneCell' = true) := Lib.hid (num_one (-c))
  go_enter Try.func69, Try.ntmps69
  go_upto_region 1 with fail
  generalize World.alloc _ _ = W1 at R5 R6 HB HZ ⊢
  have d1 := R5.out.cell 1 _ rfl
  have d2 := R5.out.cell 2 _ rfl
  have d3 := R5.out.cell 3 _ rfl
  go_wp2_with (first
    | (go_at_call 75; (with_reducible refine (HH.out _ HB.out).mono ?_); rintro e w3 ⟨rfl, hto⟩; have HT := Lib.hid hto; have R6' := Lib.hid (RunTo.row hto R6.out HNO.out); clear hto d1 d2 d3)
    | ((with_reducible refine wpList_store_row vvT R6'.out rfl (vs := [.int .i64 1, .int .i64 (-c), .pointer none]) rfl HO.out rfl (.tmp 6) (.tmp 47) rfl ?_ ?_ ?_); (exact rfl); (exact rfl)))
  exact bodyPost_ret (results_row vvT _ 6 rfl _ (R6'.out.put _ rfl) rfl rfl) rfl ⟨rfl, RunTo.write H.out HB.out (HT.out) (Nat.le_succ _) (by rw [HZ.out]; omega) (But.setCells _ _ _ _)⟩
end
end Go.Proofs.Ythngbakbiocadaa

/-
  A helper called.
-/
namespace Go.Proofs.Ythngbakbiocadaa
set_option maxRecDepth 100000
open Go.ChangeShapes Go.WideShapes Go.ChangeAt Go.RowKit Go.Maps
open V
def zero15 : List Value := [.int .i64 0, .int .i64 0, .pointer none, .int .i64 0, .int .i64 0, .pointer none, .int .i64 0, .int .i64 0, .pointer none, .int .i64 0, .int .i64 0, .pointer none, .int .i64 0, .int .i64 0, .pointer none]
theorem zero15_one : ∀ v ∈ zero15, v.oneCell' = true := by
  intro v hv
  simp only [zero15, List.mem_cons, List.not_mem_nil, or_false] at hv
  rcases hv with rfl | rfl | rfl | rfl | rfl | rfl | rfl | rfl | rfl | rfl | rfl | rfl | rfl | rfl | rfl <;> rfl
theorem run_clear_regs (w : World) (ty : TypeId) (g o c : Nat) (hth : w.there g o 15) :
    (Builtin.clear_ #[118] ty #[.slice (some ⟨g, o, none⟩) 5 c]).run Try.prog w = .ok (.tuple #[]) (w.setCells g o zero15) := by
  have hz : (zeroValue 79).run Try.prog w = .ok (.agg #[.int .i64 0, .int .i64 0, .pointer none]) w := by kernel_rfl
  have hzc : (Builtin.zeroCells (Value.agg #[.int .i64 0, .int .i64 0, .pointer none]).cells 5).toList = zero15 := by kernel_rfl
  have hst := run_storeCells_cells (P := Try.prog) g o zero15 0 w (fun j hj => by rw [Nat.add_zero]; exact (hth j hj).1) (fun j hj => by rw [Nat.add_zero]; exact (hth j hj).2) zero15_one
  rw [Nat.add_zero] at hst
  simp only [Builtin.clear_, run_underlying Try.underlying118, Sem.run_bind, Sem.run_pure, Result.andThen_ok, List.getElem?_toArray, List.getElem?_cons_zero, hz, hzc, hst]
theorem wpList_clear_regs {ops : Array Oper} {rest : List Oper} {op : Oper} {a : Act} {Q : Exit → Act → World → Prop} {w : World} (g o c : Nat) (hth : w.there g o 15) (hgd : op.guard = none) (v : Operand) (cl : Call) (ho : op.op = .call cl) (hc : cl.callee = .builtin .clear) (ha : cl.args = #[v]) (ht : cl.argTypes = #[118])
    (hv : a.eval v = .slice (some ⟨g, o, none⟩) 5 c) (h : wpList Try.prog ops Q rest (a.put op.dst (.tuple #[])) (w.setCells g o zero15)) : wpList Try.prog ops Q (op :: rest) a w :=
  wpList_plain hgd fun _ hK => by
    have hr : (execOp a.eval op).run Try.prog w = .ok (.value (.tuple #[])) (w.setCells g o zero15) := by
      unfold execOp
      simp [ho, resolve, hc, ha, ht, hv, Go.invoke, Go.builtin, run_clear_regs w _ g o c hth]
    unfold Oper.wp
    rw [hr]
    exact hK _ _ h
theorem list8 {α : Type} {l : List α} (h : l.length = 8) : ∃ a b c d e f g i, l = [a, b, c, d, e, f, g, i] := by
  match l, h with
  | [a, b, c, d, e, f, g, i], _ => exact ⟨a, b, c, d, e, f, g, i, rfl⟩
section
variable {E : Ev} {S : Nat → Prop} {s : V.St} {W : World}
theorem RunAt.clear (hE : EvOk E) (h : RunAt E S s W) : RunTo E S W (clear5 s) (W.setCells E.R 8 zero15) := by
  obtain ⟨r0, r1, r2, r3, r4, r5, r6, r7, hr⟩ := list8 h.wf.reg
  have e5 : (clear5 s).reg = [r0, .no, .no, .no, .no, .no, r6, r7] := by unfold clear5; rw [hr]; rfl
  refine ownSet hE h (Or.inl rfl) (But.setCells _ _ _ _) _ ?_ (h.fld.put_other _ _ _ (Ne.symm hE.ne)) rfl ⟨by rw [e5]; rfl, h.wf.stk, h.wf.ctx, h.wf.pure, fun k m hm => ?_, h.wf.oks⟩
  · have h0 := h.row
    unfold runL at h0 ⊢
    rw [hr] at h0
    rw [e5]
    have a0 : cellsK E.bs [r0, r1, r2, r3, r4, r5, r6, r7] = cellL E.bs r0 ++ (cellsK E.bs [r1, r2, r3, r4, r5] ++ cellsK E.bs [r6, r7]) := by simp [cellsK]
    have a1 : cellsK E.bs [r0, .no, .no, .no, .no, .no, r6, r7] = cellL E.bs r0 ++ (zero15 ++ cellsK E.bs [r6, r7]) := by simp [cellsK, cellL, zero15]
    rw [a0, List.append_assoc, List.append_assoc, ← List.append_assoc] at h0
    rw [a1, List.append_assoc, List.append_assoc, ← List.append_assoc]
    have h1 := h0.splice (vs := zero15) (by rw [cellsK_length]; rfl)
    rw [List.length_append, cellL_length, show (headL E).length = 5 from rfl] at h1
    exact h1
  · have h2 := h.wf.refs k m
    rw [hr] at h2
    rw [e5] at hm
    refine h2 ?_
    simp only [List.mem_cons, List.not_mem_nil, or_false] at hm ⊢
    rcases hm with e | e | e | e | e | e | e | e
    · exact Or.inl e
    · cases e
    · cases e
    · cases e
    · cases e
    · cases e
    · exact Or.inr (Or.inr (Or.inr (Or.inr (Or.inr (Or.inr (Or.inl e))))))
    · exact Or.inr (Or.inr (Or.inr (Or.inr (Or.inr (Or.inr (Or.inr e))))))
theorem RunAt.clrThere (h : RunAt E S s W) : W.there E.R 8 15 := fun j hj => by
  have := h.row.free (8 + j) (by rw [runL_len h.wf]; omega)
  rwa [Nat.zero_add] at this
set_option maxHeartbeats 4000000 in
theorem call_12 (h : RunAt E S s W) (k n : Int) (har : ∀ W', Calls Try.prog 67 #[.int .i64 E.h, .int .i64 k] W' fun e w' => e = .returned (.tuple #[.int .i64 n, .bool false]) ∧ W' = w') : Calls Try.prog 60 #[.pointer (some ⟨E.R, 0, none⟩), .int .i64 k] W fun e w' => e = whyE 12 ∧ Below W.heap.size W w' := by
  have c0 := h.head 0 _ rfl
  have H := Lib.hid h
  have HAR := Lib.hid har
  clear h har
  go_enter Try.func60, Try.ntmps60
  go_wp2_with (first | (go_at_call 67; (with_reducible refine (HAR.out _).mono ?_); rintro e w2 ⟨rfl, rfl⟩) | (go_at_call 47; refine (ask_no 12 _).mono ?_; rintro e w2 ⟨rfl, rfl⟩; exact ⟨rfl, rfl, Below.refl _ _⟩))
set_option maxHeartbeats 4000000 in
theorem call_args (h : RunAt E S s W) (k n : Int) {y : Nat} (har : ∀ W', Calls Try.prog 67 #[.int .i64 E.h, .int .i64 k] W' fun e w' => e = .returned (.tuple #[.int .i64 n, .bool true]) ∧ W' = w') (hag : ∀ W', Below W.heap.size W W' → Calls Try.prog 68 #[.pointer (some ⟨E.R, 0, none⟩), .int .i64 n] W' fun e w' => e = whyE y ∧ Below W'.heap.size W' w') : Calls Try.prog 60 #[.pointer (some ⟨E.R, 0, none⟩), .int .i64 k] W fun e w' => e = whyE y ∧ Below W.heap.size W w' := by
  have c0 := h.head 0 _ rfl
  have H := Lib.hid h
  have HAR := Lib.hid har
  have HAG := Lib.hid hag
  clear h har hag
  go_enter Try.func60, Try.ntmps60
  go_wp2_with (first | (go_at_call 67; (with_reducible refine (HAR.out _).mono ?_); rintro e w2 ⟨rfl, rfl⟩) | (go_at_call 47; (with_reducible refine (ask_yes _ _).mono ?_); rintro e w2 ⟨rfl, rfl⟩) | (go_at_call 68; (with_reducible refine (HAG.out _ (Below.refl _ _)).mono ?_); rintro e w2 ⟨rfl, hb⟩; exact ⟨rfl, rfl, hb⟩))
set_option maxHeartbeats 4000000 in
theorem call_13 (h : RunAt E S s W) (k n : Int) (a0 a1 a2 a3 a4 : Int) (har : ∀ W', Calls Try.prog 67 #[.int .i64 E.h, .int .i64 k] W' fun e w' => e = .returned (.tuple #[.int .i64 n, .bool true]) ∧ W' = w') (hag : ∀ W', Below W.heap.size W W' → Calls Try.prog 68 #[.pointer (some ⟨E.R, 0, none⟩), .int .i64 n] W' fun e w' => e = .returned (.agg #[.int .i64 a0, .int .i64 a1, .int .i64 a2, .int .i64 a3, .int .i64 a4]) ∧ Below W'.heap.size W' w') (hat : ∀ W', Below W.heap.size W W' → Calls Try.prog 17 #[E.v, .int .i64 a0] W' fun e w' => e = .returned (.pointer none) ∧ W' = w') : Calls Try.prog 60 #[.pointer (some ⟨E.R, 0, none⟩), .int .i64 k] W fun e w' => e = whyE 13 ∧ Below W.heap.size W w' := by
  have c0 := h.head 0 _ rfl
  have H := Lib.hid h
  have HAR := Lib.hid har
  have HAG := Lib.hid hag
  have HAT := Lib.hid hat
  clear h har hag hat
  go_enter Try.func60, Try.ntmps60
  go_upto_region 3 with (first | (go_at_call 67; (with_reducible refine (HAR.out _).mono ?_); rintro e w2 ⟨rfl, rfl⟩) | (go_at_call 47; (with_reducible refine (ask_yes _ _).mono ?_); rintro e w2 ⟨rfl, rfl⟩) | (go_at_call 68; (with_reducible refine (HAG.out _ (Below.refl _ _)).mono ?_); rintro e w2 ⟨rfl, hb⟩; have HB := Lib.hid hb; clear hb))
  have R6 := Lib.hid (rowAt_new w2 [.int .i64 a0, .int .i64 a1, .int .i64 a2, .int .i64 a3, .int .i64 a4] 115)
  have HB3 := HidB HB (below_new w2 (.cells #[.int .i64 a0, .int .i64 a1, .int .i64 a2, .int .i64 a3, .int .i64 a4] 115))
  have HLT : Hid (W.heap.size ≤ w2.heap.size) := Lib.hid HB.out.size
  clear c0
  generalize World.alloc _ _ = w3 at R6 HB3 ⊢
  generalize w2.heap.size = b6 at R6 HLT ⊢
  refine wq_region (C := fun w' => RunAt E S s w' ∧ RowAt w' b6 [.int .i64 a0, .int .i64 a1, .int .i64 a2, .int .i64 a3, .int .i64 a4] ∧ Below W.heap.size W w') (by kernel_rfl) (⟨(H.out.step HB3.out).step (drew_below _), R6.out.drew, HB3.out.drew⟩) ?_
  refine wq_take (.pointer (some ⟨E.R, 0, none⟩)) (by kernel_rfl) ?_ ?_
  · (intro w' hS; go_simp)
  (try simp only [Act.put, List.setIfInBounds_toArray, List.set_cons_zero, List.set_cons_succ])
  refine wq_take (.pointer (some ⟨E.R, 0, none⟩)) (by kernel_rfl) ?_ ?_
  · (intro w' hS; go_simp)
  (try simp only [Act.put, List.setIfInBounds_toArray, List.set_cons_zero, List.set_cons_succ])
  refine wq_take (.pointer (some ⟨E.R, 1, none⟩)) (by kernel_rfl) ?_ ?_
  · (intro w' hS; go_simp)
  (try simp only [Act.put, List.setIfInBounds_toArray, List.set_cons_zero, List.set_cons_succ])
  refine wq_take (E.v) (by kernel_rfl) ?_ ?_
  · (intro w' hS; (obtain ⟨c1, c6⟩ := (And.intro (hS.1.head 1 _ rfl) (hS.2.1.cell 0 _ rfl)); go_simp))
  (try simp only [Act.put, List.setIfInBounds_toArray, List.set_cons_zero, List.set_cons_succ])
  refine wq_take (.pointer (some ⟨b6, 0, none⟩)) (by kernel_rfl) ?_ ?_
  · (intro w' hS; go_simp)
  (try simp only [Act.put, List.setIfInBounds_toArray, List.set_cons_zero, List.set_cons_succ])
  refine wq_take (.int .i64 a0) (by kernel_rfl) ?_ ?_
  · (intro w' hS; (obtain ⟨c1, c6⟩ := (And.intro (hS.1.head 1 _ rfl) (hS.2.1.cell 0 _ rfl)); go_simp))
  (try simp only [Act.put, List.setIfInBounds_toArray, List.set_cons_zero, List.set_cons_succ])
  refine wq_call 17 #[E.v, .int .i64 a0] (.pointer none) (by kernel_rfl) (fun _ => by go_simp <;> rfl) (fun w' hS => (HAT.out _ hS.2.2).mono fun e w'' hh => ⟨hh.1, by rw [← hh.2]; exact hS⟩) ?_
  (try simp only [Act.put, List.setIfInBounds_toArray, List.set_cons_zero, List.set_cons_succ])
  refine wq_take (.pointer none) (by kernel_rfl) ?_ ?_
  · (intro w' hS; go_simp)
  (try simp only [Act.put, List.setIfInBounds_toArray, List.set_cons_zero, List.set_cons_succ])
  refine wq_nil ?_
  intro w4 hS
  have H4 := Lib.hid hS.1
  have R4 := Lib.hid hS.2.1
  have HB4 := Lib.hid hS.2.2
  clear hS HB3 R6
  go_wp2_with (go_at_call 47; refine (ask_no 13 _).mono ?_; rintro e w5 ⟨rfl, rfl⟩; exact ⟨rfl, rfl, HB4.out⟩)
set_option maxHeartbeats 4000000 in
theorem call_ok (h : RunAt E S s W) (k n : Int) (hE : EvOk E) (a0 a1 a2 a3 a4 : Int) (g : Nat) {t : V.St} (kd wd : Int) (pv : Value) (cl : V.Cell) (hcl : cellL E.bs cl = [.int .i64 kd, .int .i64 wd, pv]) (hrf : ∀ k m, cl = .ref k m → m < t.ds.length) (har : ∀ W', Calls Try.prog 67 #[.int .i64 E.h, .int .i64 k] W' fun e w' => e = .returned (.tuple #[.int .i64 n, .bool true]) ∧ W' = w') (hag : ∀ W', Below W.heap.size W W' → Calls Try.prog 68 #[.pointer (some ⟨E.R, 0, none⟩), .int .i64 n] W' fun e w' => e = .returned (.agg #[.int .i64 a0, .int .i64 a1, .int .i64 a2, .int .i64 a3, .int .i64 a4]) ∧ Below W'.heap.size W' w') (hat : ∀ W', Below W.heap.size W W' → Calls Try.prog 17 #[E.v, .int .i64 a0] W' fun e w' => e = .returned (.pointer (some ⟨g, 0, none⟩)) ∧ W' = w') (hh : ∀ W', Below W.heap.size W W' → Calls Try.prog 69 #[.int .i64 k, .pointer (some ⟨g, 0, none⟩), .agg #[.int .i64 a0, .int .i64 a1, .int .i64 a2, .int .i64 a3, .int .i64 a4]] W' fun e w' => e = .returned (.agg #[.int .i64 kd, .int .i64 wd, pv]) ∧ RunTo E S W' t w') : Calls Try.prog 60 #[.pointer (some ⟨E.R, 0, none⟩), .int .i64 k] W fun e w' => e = .returned (.tuple #[]) ∧ RunTo E S W ((clear5 t).setR 0 cl) w' := by
  have c0 := h.head 0 _ rfl
  have H := Lib.hid h
  have HAR := Lib.hid har
  have HAG := Lib.hid hag
  have HAT := Lib.hid hat
  have HH := Lib.hid hh
  have HCL := Lib.hid hcl
  have HRF := Lib.hid hrf
  have HO : Hid (∀ v ∈ ([.int .i64 kd, .int .i64 wd, pv] : List Value), v.oneCell' = true) := Lib.hid (by rw [← hcl]; exact cellL_one _ _)
  clear h har hag hat hh hcl hrf
  go_enter Try.func60, Try.ntmps60
  go_upto_region 3 with (first | (go_at_call 67; (with_reducible refine (HAR.out _).mono ?_); rintro e w2 ⟨rfl, rfl⟩) | (go_at_call 47; (with_reducible refine (ask_yes _ _).mono ?_); rintro e w2 ⟨rfl, rfl⟩) | (go_at_call 68; (with_reducible refine (HAG.out _ (Below.refl _ _)).mono ?_); rintro e w2 ⟨rfl, hb⟩; have HB := Lib.hid hb; clear hb))
  have R6 := Lib.hid (rowAt_new w2 [.int .i64 a0, .int .i64 a1, .int .i64 a2, .int .i64 a3, .int .i64 a4] 115)
  have HB3 := HidB HB (below_new w2 (.cells #[.int .i64 a0, .int .i64 a1, .int .i64 a2, .int .i64 a3, .int .i64 a4] 115))
  have HLT : Hid (W.heap.size ≤ w2.heap.size) := Lib.hid HB.out.size
  clear c0
  generalize World.alloc _ _ = w3 at R6 HB3 ⊢
  generalize w2.heap.size = b6 at R6 HLT ⊢
  refine wq_region (C := fun w' => RunAt E S s w' ∧ RowAt w' b6 [.int .i64 a0, .int .i64 a1, .int .i64 a2, .int .i64 a3, .int .i64 a4] ∧ Below W.heap.size W w') (by kernel_rfl) (⟨(H.out.step HB3.out).step (drew_below _), R6.out.drew, HB3.out.drew⟩) ?_
  refine wq_take (.pointer (some ⟨E.R, 0, none⟩)) (by kernel_rfl) ?_ ?_
  · (intro w' hS; go_simp)
  (try simp only [Act.put, List.setIfInBounds_toArray, List.set_cons_zero, List.set_cons_succ])
  refine wq_take (.pointer (some ⟨E.R, 0, none⟩)) (by kernel_rfl) ?_ ?_
  · (intro w' hS; go_simp)
  (try simp only [Act.put, List.setIfInBounds_toArray, List.set_cons_zero, List.set_cons_succ])
  refine wq_take (.pointer (some ⟨E.R, 1, none⟩)) (by kernel_rfl) ?_ ?_
  · (intro w' hS; go_simp)
  (try simp only [Act.put, List.setIfInBounds_toArray, List.set_cons_zero, List.set_cons_succ])
  refine wq_take (E.v) (by kernel_rfl) ?_ ?_
  · (intro w' hS; (obtain ⟨c1, c6⟩ := (And.intro (hS.1.head 1 _ rfl) (hS.2.1.cell 0 _ rfl)); go_simp))
  (try simp only [Act.put, List.setIfInBounds_toArray, List.set_cons_zero, List.set_cons_succ])
  refine wq_take (.pointer (some ⟨b6, 0, none⟩)) (by kernel_rfl) ?_ ?_
  · (intro w' hS; go_simp)
  (try simp only [Act.put, List.setIfInBounds_toArray, List.set_cons_zero, List.set_cons_succ])
  refine wq_take (.int .i64 a0) (by kernel_rfl) ?_ ?_
  · (intro w' hS; (obtain ⟨c1, c6⟩ := (And.intro (hS.1.head 1 _ rfl) (hS.2.1.cell 0 _ rfl)); go_simp))
  (try simp only [Act.put, List.setIfInBounds_toArray, List.set_cons_zero, List.set_cons_succ])
  refine wq_call 17 #[E.v, .int .i64 a0] (.pointer (some ⟨g, 0, none⟩)) (by kernel_rfl) (fun _ => by go_simp <;> rfl) (fun w' hS => (HAT.out _ hS.2.2).mono fun e w'' hh => ⟨hh.1, by rw [← hh.2]; exact hS⟩) ?_
  (try simp only [Act.put, List.setIfInBounds_toArray, List.set_cons_zero, List.set_cons_succ])
  refine wq_take (.pointer (some ⟨g, 0, none⟩)) (by kernel_rfl) ?_ ?_
  · (intro w' hS; go_simp)
  (try simp only [Act.put, List.setIfInBounds_toArray, List.set_cons_zero, List.set_cons_succ])
  refine wq_nil ?_
  intro w4 hS
  have H4 := Lib.hid hS.1
  have R4 := Lib.hid hS.2.1
  have HB4 := Lib.hid hS.2.2
  clear hS HB3 R6
  go_upto_region 6 with (first
    | (go_at_call 47; (with_reducible refine (ask_yes _ _).mono ?_); rintro e w2 ⟨rfl, rfl⟩)
    | (with_reducible refine wpList_load_row arT R4.out rfl rfl (.tmp 6) rfl rfl ?_)
    | (go_at_call 69; (with_reducible refine (HH.out _ HB4.out).mono ?_); rintro e w5 ⟨rfl, hto⟩; have HT := Lib.hid hto; clear hto)
    | ((with_reducible refine wpList_store_newrow vvT (vs := [.int .i64 kd, .int .i64 wd, pv]) rfl HO.out rfl (.tmp 8) (.tmp 36) rfl rfl ?_ ?_ ?_); (exact rfl); (exact rfl); intro w6 hP hb hz; have R8 := Lib.hid hP; have HB6 := Lib.hid hb; clear hP hb hz))
  obtain ⟨S6, H6, hbut6, hs6⟩ := HT.out.step HB6.out
  have HT6 := Lib.hid hbut6
  have HS6 := Lib.hid hs6
  have HC := Lib.hid (H6.clear hE)
  have HTH := Lib.hid H6.clrThere
  have HN8 : Hid (w5.heap.size ≠ E.R) := Lib.hid (fun e => by have := HT.out.size; have := H4.out.Rlt; omega)
  clear hbut6 hs6 H6
  go_upto_region 7 with ((with_reducible refine wpList_clear_regs E.R 8 7 HTH.out rfl (.tmp 40) _ rfl rfl rfl rfl ?_ ?_); (exact rfl))
  have R8' := Lib.hid ((R8.out.put_other E.R 8 zero15 HN8.out).drew)
  generalize World.setCells _ _ _ _ = w7 at HC R8' ⊢
  obtain ⟨S7, H7, hbut7, hs7⟩ := HC.out
  have H7' := Lib.hid (H7.step (drew_below _))
  have HTO : Hid (RunTo E S W (clear5 t) w7.drew) := Lib.hid (RunTo.back HB4.out (RunTo.trans HT6.out HS6.out (RunTo.trans hbut7 hs7 (RunTo.self H7 (drew_below _)))))
  have HR : Hid (∀ S', RunAt E S' (clear5 t) w7.drew → RunTo E S' w7.drew ((clear5 t).setR 0 cl) (w7.drew.setCells E.R 5 [.int .i64 kd, .int .i64 wd, pv])) := Lib.hid (fun S' h' => by
    have := h'.setR hE 0 (by omega) cl HRF.out
    rw [HCL.out] at this
    exact this)
  have HTR := Lib.hid (H7'.out.regThere 0 (by omega))
  clear hbut7 hs7 H7 HC
  refine ws_region 5 (by kernel_rfl) ?_
  simp only [List.take_succ_cons, List.take_zero, List.drop_succ_cons, List.drop_zero]
  refine ws_take (.pointer (some ⟨E.R, 0, none⟩)) (by kernel_rfl) ?_ ?_
  · (go_simp)
  (try simp only [Act.put, List.setIfInBounds_toArray, List.set_cons_zero, List.set_cons_succ])
  refine ws_at vvT (vs := [.int .i64 kd, .int .i64 wd, pv]) rfl (.tmp 8) rfl rfl (by kernel_rfl) R8'.out.range ?_
  (try simp only [Act.put, List.setIfInBounds_toArray, List.set_cons_zero, List.set_cons_succ])
  refine ws_take (.pointer (some ⟨E.R, 0, none⟩)) (by kernel_rfl) ?_ ?_
  · (go_simp)
  (try simp only [Act.put, List.setIfInBounds_toArray, List.set_cons_zero, List.set_cons_succ])
  refine ws_take (.pointer (some ⟨E.R, 5, none⟩)) (by kernel_rfl) ?_ ?_
  · (go_simp)
  (try simp only [Act.put, List.setIfInBounds_toArray, List.set_cons_zero, List.set_cons_succ])
  refine ws_take (.pointer (some ⟨E.R, 5, none⟩)) (by kernel_rfl) ?_ ?_
  · (go_simp)
  (try simp only [Act.put, List.setIfInBounds_toArray, List.set_cons_zero, List.set_cons_succ])
  refine ws_nil ?_
  go_wp2_with ((with_reducible refine wpList_store_at vvT (vs := [.int .i64 kd, .int .i64 wd, pv]) HTR.out rfl HO.out rfl (.tmp 45) (.tmp 42) rfl ?_ ?_ ?_); (exact rfl); (exact rfl))
  go_end0
  exact ⟨rfl, HTO.out.bind HR.out⟩
end
end Go.Proofs.Ythngbakbiocadaa

/-
  A helper called, whatever the registers have.
-/
namespace Go.Proofs.Ythngbakbiocadaa
set_option maxRecDepth 100000
open Go.ChangeShapes Go.WideShapes Go.ChangeAt Go.RowKit Go.Maps
open V
theorem argsF_bd (h k : Int) : Hk.argsF h k ≤ 4 := by
  unfold Hk.argsF
  split
  · omega
  · split
    · omega
    · split
      · omega
      · split
        · split <;> omega
        · split
          · split <;> omega
          · omega
theorem argsF_k {h k : Int} (hp : 0 < Hk.argsF h k) : (k = 1 ∧ Hk.argsF h k = 2) ∨ (k = 2 ∧ Hk.argsF h k = 1) ∨ (k = 3 ∧ Hk.argsF h k = 4) ∨ (k = 4 ∧ Hk.argsF h k = 2) := by
  unfold Hk.argsF at *
  split at hp
  · omega
  · rename_i h0
    rw [if_neg h0]
    split at hp
    · rename_i h1; rw [if_pos h1]; omega
    · rename_i h1
      rw [if_neg h1]
      split at hp
      · rename_i h2; rw [if_pos h2]; omega
      · rename_i h2
        rw [if_neg h2]
        split at hp
        · rename_i h3
          rw [if_pos h3]
          split at hp
          · rename_i h4; rw [if_pos h4]; omega
          · omega
        · rename_i h3
          rw [if_neg h3]
          split at hp
          · rename_i h4
            rw [if_pos h4]
            split at hp
            · rename_i h5; rw [if_pos h5]; omega
            · omega
          · omega
theorem putC_bd (lru : Bool) (room : Nat) (l : List Z.En) (e : Z.En) : 0 ≤ Z.putC lru room l e ∧ Z.putC lru room l e ≤ 1000 := by
  unfold Z.putC
  split
  · omega
  · split
    · split <;> omega
    · omega
section
variable {E : Ev} {S : Nat → Prop} {s : V.St} {W : World}
theorem gotV_tuple (o : Option Z.En) : ∃ x0 x1 x2 x3 : Int, gotV o = .tuple #[.agg #[.int .i64 x0, .int .i64 x1, .int .i64 x2, .int .i64 x3], .bool o.isSome] := by
  cases o with
  | none => exact ⟨0, 0, 0, 0, rfl⟩
  | some x => exact ⟨x.a, x.b, x.c, x.d, rfl⟩
/-- what all helpers share -/
theorem call_go (hE : EvOk E) (h : RunAt E S s W) (k : Int) {n : Nat} (hn : Hk.argsF E.h k = (n : Int)) (hn0 : 0 < n) (hn5 : n ≤ 5) (hu : unsets s 1 n = false) (hm : nonums s 1 n = false) {m : Nat} (ha0 : num0 s 1 = (m : Int)) {d : Dt} (hd : s.ds[m]? = some d) {t : V.St} (kd wd : Int) (pv : Value) (cl : V.Cell) (hcl : cellL E.bs cl = [.int .i64 kd, .int .i64 wd, pv]) (hrf : ∀ k m, cl = .ref k m → m < t.ds.length)
    (hh : ∀ a0 a1 a2 a3 a4 : Int, argK s n = [a0, a1, a2, a3, a4] → ∀ W', Below W.heap.size W W' → Calls Try.prog 69 #[.int .i64 k, .pointer (some ⟨E.bs.getD m 0, 0, none⟩), .agg #[.int .i64 a0, .int .i64 a1, .int .i64 a2, .int .i64 a3, .int .i64 a4]] W' fun e w' => e = .returned (.agg #[.int .i64 kd, .int .i64 wd, pv]) ∧ RunTo E S W' t w') :
    Calls Try.prog 60 #[.pointer (some ⟨E.R, 0, none⟩), .int .i64 k] W (Wr E S W (V.ret t cl)) := by
  obtain ⟨a0, a1, a2, a3, a4, hk, _⟩ := args_ok h n hn5 hu hm
  have e0 : a0 = (m : Int) := by
    have h1 : (argK s n)[0]? = some a0 := by rw [hk]; rfl
    have h2 : (argK s n)[0]? = some (num0 s 1) := by unfold argK; simp [hn0]
    rw [h1] at h2
    injection h2 with h2
    rw [h2, ha0]
  subst e0
  refine (call_ok h k (n : Int) hE (m : Int) a1 a2 a3 a4 (E.bs.getD m 0) kd wd pv cl hcl hrf (fun W' => ?_) (fun W' hb => ?_) (fun W' hb => st_at (h.step hb).st hd) (hh _ a1 a2 a3 a4 hk)).mono fun e w' hh => hh
  · have := args_any E.h k W'
    rw [hn, show decide ((n : Int) > 0) = true from by simp; omega] at this
    exact this
  · obtain ⟨b0, b1, b2, b3, b4, hb', hc⟩ := args_ok (h.step hb) n hn5 hu hm
    rw [hk] at hb'
    injection hb' with e0 hb'; injection hb' with e1 hb'; injection hb' with e2 hb'; injection hb' with e3 hb'; injection hb' with e4 hb'
    rw [e0, e1, e2, e3, e4]
    exact hc
theorem argK_2 {a0 a1 a2 a3 a4 : Int} (h : argK s 2 = [a0, a1, a2, a3, a4]) : a1 = num0 s 2 := by
  have h1 : argK s 2 = [num0 s 1, num0 s 2, 0, 0, 0] := rfl
  rw [h1] at h
  injection h with _ h; injection h with h _
  exact h.symm
theorem argK_4 {a0 a1 a2 a3 a4 : Int} (h : argK s 4 = [a0, a1, a2, a3, a4]) : a1 = num0 s 2 ∧ a2 = num0 s 3 ∧ a3 = num0 s 4 := by
  have h1 : argK s 4 = [num0 s 1, num0 s 2, num0 s 3, num0 s 4, 0] := rfl
  rw [h1] at h
  injection h with _ h; injection h with e1 h; injection h with e2 h; injection h with e3 h
  exact ⟨e1.symm, e2.symm, e3.symm⟩
theorem maps_set (hE : EvOk E) {W' : World} (h : RunAt E S s W) {m : Nat} {d : Dt} (hd : s.ds[m]? = some d) {l : List Z.En} (hok : Dt.ok ⟨d.lru, d.room, l⟩) (hto : StTo sP E.ba E.v E.bs S W (s.ds.set m ⟨d.lru, d.room, l⟩) W') : RunTo E S W (s.setD m l) W' := by
  rw [setD_is hd]
  exact h.maps hE hto (by rw [List.length_set]) (oks_set h.wf.oks hok)
theorem setD_len (m : Nat) (l : List Z.En) : (s.setD m l).ds.length = s.ds.length := by unfold V.St.setD; split <;> simp
theorem help_any (hE : EvOk E) (h : RunAt E S s W) (k : Int) {n : Nat} (hn : Hk.argsF E.h k = (n : Int)) (hn0 : 0 < n) (hn5 : n ≤ 5) (hu : unsets s 1 n = false) (hm : nonums s 1 n = false) {m : Nat} (ha0 : num0 s 1 = (m : Int)) {d : Dt} (hd : s.ds[m]? = some d) :
    Calls Try.prog 60 #[.pointer (some ⟨E.R, 0, none⟩), .int .i64 k] W (Wr E S W (V.help k m d s)) := by
  have hok := h.wf.oks d (List.mem_of_getElem? hd)
  have hml : m < s.ds.length := (List.getElem?_eq_some_iff.1 hd).1
  have hk := argsF_k (h := E.h) (k := k) (by rw [hn]; omega)
  rw [hn] at hk
  rcases hk with ⟨rfl, e⟩ | ⟨rfl, e⟩ | ⟨rfl, e⟩ | ⟨rfl, e⟩
  · obtain rfl : n = 2 := by omega
    unfold V.help
    rw [if_pos rfl]
    have hU := fun W' (hb : Below W.heap.size W W') => st_use (h.step hb).st hd hok (h.step hb).hb (num0 s 2)
    obtain ⟨x0, x1, x2, x3, hx⟩ := gotV_tuple (Z.getI (num0 s 2) d.l)
    cases ho : Z.getI (num0 s 2) d.l with
    | none =>
      rw [hx, ho] at hU
      refine call_go hE h 1 hn hn0 hn5 hu hm ha0 hd 1 0 (.pointer none) (.num 0) rfl (fun _ _ e => by cases e) (fun a0 a1 a2 a3 a4 ha W' hb => ?_)
      obtain rfl := argK_2 ha
      exact help_none (h.step hb) _ a0 _ a2 a3 a4 x0 x1 x2 x3 (fun W2 hb2 => (hU W2 (hb.trans (hb2.mono hb.size))).mono fun e w' hh => ⟨hh.1, maps_set hE (h.step (hb.trans (hb2.mono hb.size))) hd (dt_len hok (Nat.le_of_eq (useI_len _ _ _))) hh.2⟩)
    | some y =>
      rw [hx, ho] at hU
      refine call_go hE h 1 hn hn0 hn5 hu hm ha0 hd 2 (num0 s 2) (.pointer (some ⟨E.bs.getD m 0, 0, none⟩)) (.ref (num0 s 2) m) rfl (fun _ _ e => by injection e with _ e; rw [setD_len, ← e]; exact hml) (fun a0 a1 a2 a3 a4 ha W' hb => ?_)
      obtain rfl := argK_2 ha
      exact help_yes (h.step hb) _ a0 _ a2 a3 a4 x0 x1 x2 x3 (fun W2 hb2 => (hU W2 (hb.trans (hb2.mono hb.size))).mono fun e w' hh => ⟨hh.1, maps_set hE (h.step (hb.trans (hb2.mono hb.size))) hd (dt_len hok (Nat.le_of_eq (useI_len _ _ _))) hh.2⟩)
  · unfold V.help
    rw [if_neg (by decide), if_pos rfl]
    refine call_go hE h 2 hn hn0 hn5 hu hm ha0 hd 1 (d.l.length : Int) (.pointer none) (.num _) rfl (fun _ _ e => by cases e) (fun a0 a1 a2 a3 a4 ha W' hb => ?_)
    exact help_count (h.step hb) _ a0 a1 a2 a3 a4 _ (fun W2 hb2 => (st_len (h.step (hb.trans (hb2.mono hb.size))).st hd).mono fun e w' hh => ⟨hh.1, RunTo.self (h.step (hb.trans (hb2.mono hb.size))) hh.2⟩)
  · obtain rfl : n = 4 := by omega
    unfold V.help
    rw [if_neg (by decide), if_neg (by decide), if_pos rfl]
    refine call_go hE h 3 hn hn0 hn5 hu hm ha0 hd 1 _ (.pointer none) (.num _) rfl (fun _ _ e => by cases e) (fun a0 a1 a2 a3 a4 ha W' hb => ?_)
    obtain ⟨rfl, rfl, rfl⟩ := argK_4 ha
    exact help_put (h.step hb) _ a0 _ _ _ a4 _ (putC_bd _ _ _ _) (fun W2 hb2 => (st_put (h.step (hb.trans (hb2.mono hb.size))).st hd hok (h.step (hb.trans (hb2.mono hb.size))).hb ⟨num0 s 2, num0 s 3, num0 s 4, 0, 0⟩).mono fun e w' hh => ⟨hh.1, maps_set hE (h.step (hb.trans (hb2.mono hb.size))) hd (Dt.ok_put hok _) hh.2⟩)
  · obtain rfl : n = 2 := by omega
    unfold V.help
    rw [if_neg (by decide), if_neg (by decide), if_neg (by decide)]
    refine call_go hE h 4 hn hn0 hn5 hu hm ha0 hd 1 _ (.pointer none) (.num _) rfl (fun _ _ e => by cases e) (fun a0 a1 a2 a3 a4 ha W' hb => ?_)
    obtain rfl := argK_2 ha
    exact help_drop (h.step hb) _ a0 _ a2 a3 a4 _ (by split <;> omega) (fun W2 hb2 => (st_drop (h.step (hb.trans (hb2.mono hb.size))).st hd hok (num0 s 2)).mono fun e w' hh => ⟨hh.1, maps_set hE (h.step (hb.trans (hb2.mono hb.size))) hd (dt_len hok (dropI_len _ _)) hh.2⟩)
theorem call_any (hE : EvOk E) (h : RunAt E S s W) (k : Int) : Calls Try.prog 60 #[.pointer (some ⟨E.R, 0, none⟩), .int .i64 k] W (Wr E S W (V.call E.h k s)) := by
  unfold V.call
  by_cases hp : Hk.argsF E.h k ≤ 0
  · rw [if_pos hp]
    refine (call_12 h k (Hk.argsF E.h k) (fun W' => ?_)).mono fun e w' hh => wr_flt h hh
    have := args_any E.h k W'
    rw [show decide (Hk.argsF E.h k > 0) = false from by simp; omega] at this
    exact this
  · rw [if_neg hp]
    obtain ⟨n, hn⟩ : ∃ n : Nat, Hk.argsF E.h k = (n : Int) := ⟨(Hk.argsF E.h k).toNat, by omega⟩
    have hn4 := argsF_bd E.h k
    have hAr : ∀ W', Calls Try.prog 67 #[.int .i64 E.h, .int .i64 k] W' fun e w' => e = .returned (.tuple #[.int .i64 (n : Int), .bool true]) ∧ W' = w' := fun W' => by
      have := args_any E.h k W'
      rw [hn, show decide ((n : Int) > 0) = true from by simp; omega] at this
      exact this
    rw [hn, Int.toNat_natCast]
    cases hu : unsets s 1 n with
    | true =>
      rw [if_pos rfl]
      exact (call_args h k (n : Int) hAr (fun W' hb => args_no (h.step hb) n (by omega) (y := 3) (by unfold argsF; rw [if_pos hu]))).mono fun e w' hh => wr_flt h hh
    | false =>
      rw [if_neg (by decide)]
      cases hm : nonums s 1 n with
      | true =>
        rw [if_pos rfl]
        exact (call_args h k (n : Int) hAr (fun W' hb => args_no (h.step hb) n (by omega) (y := 4) (by unfold argsF; rw [if_neg (by rw [hu]; decide), if_pos hm]))).mono fun e w' hh => wr_flt h hh
      | false =>
        rw [if_neg (by decide)]
        obtain ⟨a0, a1, a2, a3, a4, hk, _⟩ := args_ok h n (by omega) hu hm
        have e0 : a0 = num0 s 1 := by
          have h1 : (argK s n)[0]? = some a0 := by rw [hk]; rfl
          have h2 : (argK s n)[0]? = some (num0 s 1) := by unfold argK; simp; omega
          rw [h1] at h2
          injection h2 with h2
        have hAg : ∀ W', Below W.heap.size W W' → Calls Try.prog 68 #[.pointer (some ⟨E.R, 0, none⟩), .int .i64 (n : Int)] W' fun e w' => e = .returned (.agg #[.int .i64 a0, .int .i64 a1, .int .i64 a2, .int .i64 a3, .int .i64 a4]) ∧ Below W'.heap.size W' w' := fun W' hb => by
          obtain ⟨b0, b1, b2, b3, b4, hb', hc⟩ := args_ok (h.step hb) n (by omega) hu hm
          rw [hk] at hb'
          injection hb' with e0 hb'; injection hb' with e1 hb'; injection hb' with e2 hb'; injection hb' with e3 hb'; injection hb' with e4 hb'
          rw [e0, e1, e2, e3, e4]
          exact hc
        by_cases hneg : num0 s 1 < 0
        · rw [if_pos hneg]
          exact (call_13 h k (n : Int) a0 a1 a2 a3 a4 hAr hAg (fun W' hb => st_at_no (h.step hb).st a0 (Or.inl (by rw [e0]; exact hneg)))).mono fun e w' hh => wr_flt h hh
        · rw [if_neg hneg]
          obtain ⟨m, hm0⟩ : ∃ m : Nat, num0 s 1 = (m : Int) := ⟨(num0 s 1).toNat, by omega⟩
          rw [hm0, Int.toNat_natCast]
          cases hd : s.ds[m]? with
          | none =>
            refine (call_13 h k (n : Int) a0 a1 a2 a3 a4 hAr hAg (fun W' hb => st_at_no (h.step hb).st a0 (Or.inr ?_))).mono fun e w' hh => wr_flt h hh
            rw [e0, hm0]
            have := List.getElem?_eq_none_iff.1 hd
            omega
          | some d => exact help_any hE h k hn (by omega) (by omega) hu hm hm0 hd
end
end Go.Proofs.Ythngbakbiocadaa
