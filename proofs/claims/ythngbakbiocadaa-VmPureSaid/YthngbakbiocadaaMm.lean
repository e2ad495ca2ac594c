/-
  The law's awake, from the contract of vm.Run.
-/
import Derived.Test.YthngbakbiocadaaMl
import Derived.Test.YthngbakbiocadaaMk

namespace Go.Proofs.Ythngbakbiocadaa
set_option maxRecDepth 100000
open Go.ChangeShapes Go.WideShapes Go.ChangeAt Go.RowKit Go.Maps

def xsA : List Y.In := [⟨2, 0, 0, 0, 7⟩, ⟨80, 0, 0, 0, 0⟩]
def xsB : List Y.In := [⟨80, 0, 0, 0, 0⟩]
theorem outA (K : V.Calc) (hi : Int → Bool) : (outOf K hi 8 [0, 0, 0, 0, 0] xsA []).how = 1 ∧ (outOf K hi 8 [0, 0, 0, 0, 0] xsA []).verdict = 7 ∧ (outOf K hi 8 [0, 0, 0, 0, 0] xsA []).steps = 2 ∧ (outOf K hi 8 [0, 0, 0, 0, 0] xsA []).err = 0 := by
  refine ⟨?_, ?_, ?_, ?_⟩ <;> kernel_rfl
theorem outB (K : V.Calc) (hi : Int → Bool) : (outOf K hi 8 [0, 0, 0, 0, 0] xsB []).how = 2 ∧ (outOf K hi 8 [0, 0, 0, 0, 0] xsB []).why = 3 ∧ (outOf K hi 8 [0, 0, 0, 0, 0] xsB []).err = 0 := by
  refine ⟨?_, ?_, ?_⟩ <;> kernel_rfl
theorem ins_row {w : World} {b : Nat} {xs : List Y.In} {n : Nat} (h : RowAt w b (xs.map Yq.inL).flatten) (hb : b < w.heap.size) (hn : xs.length = n) : Yq.InsAt w (some ⟨b, 0, none⟩) n xs := by
  refine ⟨hn, ⟨fun _ => ⟨b, 0, rfl, hb, fun i r hi j v hv => ?_⟩⟩⟩
  rw [List.getElem?_map] at hi
  cases hx : xs[i]? with
  | none => rw [hx] at hi; cases hi
  | some x =>
    rw [hx] at hi
    injection hi with hi
    subst hi
    have hj : j < 5 := by have := (List.getElem?_eq_some_iff.1 hv).1; rw [Yq.inL_length] at this; exact this
    have key : ∀ (xs : List Y.In) (i : Nat) (x : Y.In), xs[i]? = some x → (xs.map Yq.inL).flatten[i * 5 + j]? = (Yq.inL x)[j]? := by
      intro xs
      induction xs with
      | nil => intro i x h; simp at h
      | cons y r ih =>
        intro i x h
        rw [List.map_cons, List.flatten_cons]
        cases i with
        | zero =>
          have : y = x := by simpa using h
          subst this
          rw [Nat.zero_mul, Nat.zero_add, List.getElem?_append_left (by rw [Yq.inL_length]; exact hj)]
        | succ i =>
          rw [List.getElem?_append_right (by rw [Yq.inL_length]; omega), Yq.inL_length]
          have : (i + 1) * 5 + j - 5 = i * 5 + j := by omega
          rw [this]
          exact ih i x (by simpa using h)
    have := h.range (i * 5 + j) v (by rw [key xs i x hx]; exact hv)
    have e : 0 + (i * 5 + j) = 0 + i * 5 + j := by omega
    rw [e] at this
    exact this
section
variable (K : V.Calc) (hi : Int → Bool)
theorem mk5 (w : World) : (Instr.makeSlice 22 (.int .i64 5) (.int .i64 5)).run Try.prog w = .ok (.slice (some ⟨w.heap.size, 0, none⟩) 5 5) (w.alloc (.cells #[.int .i64 0, .int .i64 0, .int .i64 0, .int .i64 0, .int .i64 0] 3)) := run_make_ints w 5 (by omega)
theorem aw_run (HR : RunC K hi) (xs : List Y.In) (n : Nat) (hn : xs.length = n) (hle : n ≤ 100) (w : World) (t1 t2 : TypeId) (cs : Array Value) (hc : cs = ((xs.map Yq.inL).flatten).toArray) :
    Calls Try.prog 10 #[.int .i64 8, .slice none 0 0, .slice (some ⟨w.heap.size, 0, none⟩) 5 5, .slice (some ⟨w.heap.size + 1, 0, none⟩) n n] ((w.alloc (.cells #[.int .i64 0, .int .i64 0, .int .i64 0, .int .i64 0, .int .i64 0] t1)).alloc (.cells cs t2))
      fun e w' => (∃ O k c, e = .returned (.tuple #[.agg (outL (outOf K hi 8 [0, 0, 0, 0, 0] xs []) O k c).toArray, .int .i64 (outOf K hi 8 [0, 0, 0, 0, 0] xs []).err])) ∧ Below w.heap.size w w' := by
  subst hc
  have r1 := rowAt_new w (intV [0, 0, 0, 0, 0]) t1
  generalize hW1 : w.alloc (.cells #[.int .i64 0, .int .i64 0, .int .i64 0, .int .i64 0, .int .i64 0] t1) = W1
  have b1 : Below w.heap.size w W1 := by rw [← hW1]; exact (Below.refl _ _).alloc (Nat.le_refl _) _
  have s1 : W1.heap.size = w.heap.size + 1 := by rw [← hW1]; simp
  have r1' : RowAt W1 w.heap.size (intV [0, 0, 0, 0, 0]) := by rw [← hW1]; exact r1
  rw [← s1]
  have r2 := rowAt_new W1 ((xs.map Yq.inL).flatten) t2
  have b2 : Below W1.heap.size W1 (W1.alloc (.cells ((xs.map Yq.inL).flatten).toArray t2)) := (Below.refl _ _).alloc (Nat.le_refl _) _
  have s2 : (W1.alloc (.cells ((xs.map Yq.inL).flatten).toArray t2)).heap.size = W1.heap.size + 1 := by simp
  generalize W1.alloc (.cells ((xs.map Yq.inL).flatten).toArray t2) = W at r2 b2 s2
  have hnum : NumsAt W1 (some ⟨w.heap.size, 0, none⟩) 5 [0, 0, 0, 0, 0] := nums_row r1' (by omega) rfl
  refine (HR 8 _ 5 5 [0, 0, 0, 0, 0] _ n n xs W.heap.size (.slice none 0 0) [] (fun _ => False) [] W W (ins_row r2 (by omega) hn) (Below.refl _ _) (Nat.le_refl _) (hnum.step b2) (fun _ _ _ h => h) (StAt.nil sP _ _) (Nat.le_refl _) (fun d hd => by cases hd) (Nat.zero_le _) (by omega) (by omega)).mono ?_
  rintro e w' ⟨⟨O, k, c, he, _, _⟩, S', _, hb, _⟩
  exact ⟨⟨O, k, c, he⟩, (b1.trans (b2.mono (by omega))).trans (hb.below (by omega) (fun _ h => h.elim))⟩
theorem aw_a (HR : RunC K hi) (w : World) (t1 t2 : TypeId) :
    Calls Try.prog 10 #[.int .i64 8, .slice none 0 0, .slice (some ⟨w.heap.size, 0, none⟩) 5 5, .slice (some ⟨w.heap.size + 1, 0, none⟩) 2 2] ((w.alloc (.cells #[.int .i64 0, .int .i64 0, .int .i64 0, .int .i64 0, .int .i64 0] t1)).alloc (.cells #[.int .i64 2, .int .i64 0, .int .i64 0, .int .i64 0, .int .i64 7, .int .i64 80, .int .i64 0, .int .i64 0, .int .i64 0, .int .i64 0] t2))
      fun e w' => (∃ why O k c, e = .returned (.tuple #[.agg #[.int .i64 1, .int .i64 why, .int .i64 7, .int .i64 2, .slice O k c], .int .i64 0])) ∧ Below w.heap.size w w' := by
  refine (aw_run K hi HR xsA 2 rfl (by omega) w t1 t2 _ rfl).mono ?_
  rintro e w' ⟨⟨O, k, c, he⟩, hb⟩
  obtain ⟨h1, h2, h3, h4⟩ := outA K hi
  refine ⟨⟨(outOf K hi 8 [0, 0, 0, 0, 0] xsA []).why, O, k, c, ?_⟩, hb⟩
  rw [he]
  unfold outL
  rw [h1, h2, h3, h4]
theorem aw_b (HR : RunC K hi) (w : World) (t1 t2 : TypeId) :
    Calls Try.prog 10 #[.int .i64 8, .slice none 0 0, .slice (some ⟨w.heap.size, 0, none⟩) 5 5, .slice (some ⟨w.heap.size + 1, 0, none⟩) 1 1] ((w.alloc (.cells #[.int .i64 0, .int .i64 0, .int .i64 0, .int .i64 0, .int .i64 0] t1)).alloc (.cells #[.int .i64 80, .int .i64 0, .int .i64 0, .int .i64 0, .int .i64 0] t2))
      fun e w' => (∃ ver st O k c, e = .returned (.tuple #[.agg #[.int .i64 2, .int .i64 3, .int .i64 ver, .int .i64 st, .slice O k c], .int .i64 0])) ∧ Below w.heap.size w w' := by
  refine (aw_run K hi HR xsB 1 rfl (by omega) w t1 t2 _ rfl).mono ?_
  rintro e w' ⟨⟨O, k, c, he⟩, hb⟩
  obtain ⟨h1, h2, h3⟩ := outB K hi
  refine ⟨⟨(outOf K hi 8 [0, 0, 0, 0, 0] xsB []).verdict, (outOf K hi 8 [0, 0, 0, 0, 0] xsB []).steps, O, k, c, ?_⟩, hb⟩
  rw [he]
  unfold outL
  rw [h1, h2, h3]
theorem five_one (a b c d : Int) (O : Option Addr) (k e : Nat) : ∀ v ∈ [Value.int .i64 a, .int .i64 b, .int .i64 c, .int .i64 d, .slice O k e], v.oneCell' = true := by
  intro v hv
  simp only [List.mem_cons, List.not_mem_nil, or_false] at hv
  rcases hv with rfl | rfl | rfl | rfl | rfl <;> rfl
set_option maxHeartbeats 4000000 in
theorem awake_c (HR0 : RunC K hi) : AwakeC := by
  intro w
  have HA := Lib.hid (fun w => aw_a K hi HR0 w 3 64)
  have HB := Lib.hid (fun w => aw_b K hi HR0 w 3 64)
  clear HR0
  go_enter Try.func6, Try.ntmps6
  have hmk := mk5 w
  go_upto_region 2 with (first
    | (go_at_call 10; (with_reducible refine (HA.out w).mono ?_); rintro e w2 ⟨⟨why, O, k, c, rfl⟩, hb⟩; have B2 := Lib.hid hb; clear hb hmk)
    | ((with_reducible refine wpList_store_newrow outT (vs := [.int .i64 1, .int .i64 why, .int .i64 7, .int .i64 2, .slice O k c]) rfl (five_one _ _ _ _ _ _ _) rfl (.tmp 1) (.tmp 11) rfl rfl ?_ ?_ ?_); (exact rfl); (exact rfl); intro W4 hP hb hz; have R1 := Lib.hid hP; replace B2 := Lib.hid (B2.out.trans (hb.mono B2.out.size)); clear hP hb hz; generalize w2.heap.size = G1 at R1 ⊢))
  have hmk := mk5 W4
  go_wp2_with (first
    | (go_at_call 10; (with_reducible refine (HB.out W4).mono ?_); rintro e w5 ⟨⟨ver, st, O2, k2, c2, rfl⟩, hb⟩; replace R1 := Lib.hid (RowAt.step (v := .int .i64 1) (vs := [.int .i64 why, .int .i64 7, .int .i64 2, .slice O k c]) R1.out hb); replace B2 := Lib.hid (B2.out.trans (hb.mono B2.out.size)); clear hb hmk)
    | ((with_reducible refine wpList_store_newrow outT (vs := [.int .i64 2, .int .i64 3, .int .i64 ver, .int .i64 st, .slice O2 k2 c2]) rfl (five_one _ _ _ _ _ _ _) rfl (.tmp 3) (.tmp 18) rfl rfl ?_ ?_ ?_); (exact rfl); (exact rfl); intro W6 hP hb hz; replace R1 := Lib.hid (RowAt.step (v := .int .i64 1) (vs := [.int .i64 why, .int .i64 7, .int .i64 2, .slice O k c]) R1.out hb); replace B2 := Lib.hid (B2.out.trans (hb.mono B2.out.size)); have q0 := hP.cell 0 _ rfl; have q1 := hP.cell 1 _ rfl; have p0 := R1.out.cell 0 _ rfl; have p2 := R1.out.cell 2 _ rfl; have p3 := R1.out.cell 3 _ rfl; clear hP hb hz R1; generalize w5.heap.size = G2 at q0 q1 ⊢))
  go_ret
  exact ⟨rfl, B2.out⟩
end
end Go.Proofs.Ythngbakbiocadaa

/-
  A handler that runs, in memory: its struct, its fields, its maps; what a call that reads answers, and what one that changes leaves.
-/
namespace Go.Proofs.Ythngbakbiocadaa
set_option maxRecDepth 100000
open Go.ChangeShapes Go.WideShapes Go.ChangeAt Go.RowKit Go.Maps

theorem RowAt.splice {w : World} {b : Nat} {a us vs z : List Value} (h : RowAt w b (a ++ (us ++ z))) (hl : vs.length = us.length) : RowAt (w.setCells b a.length vs) b (a ++ (vs ++ z)) where
  range := fun j u hu => by
    rw [Nat.zero_add]
    have hth : w.there b a.length vs.length := fun k hk => by
      have := h.free (a.length + k) (by rw [List.length_append, List.length_append]; omega)
      rwa [Nat.zero_add] at this
    by_cases h1 : j < a.length
    · rw [List.getElem?_append_left h1] at hu
      rw [World.cell?_setCells_out b vs a.length w ⟨b, j, none⟩ (fun _ _ => Or.inl h1)]
      exact h.cell j u (by rw [List.getElem?_append_left h1]; exact hu)
    · rw [List.getElem?_append_right (by omega)] at hu
      by_cases h2 : j - a.length < vs.length
      · rw [List.getElem?_append_left h2] at hu
        have := World.rangeAt_setCells_same w b a.length vs hth (j - a.length) u hu
        rwa [show a.length + (j - a.length) = j by omega] at this
      · rw [List.getElem?_append_right (by omega)] at hu
        rw [World.cell?_setCells_out b vs a.length w ⟨b, j, none⟩ (fun _ _ => Or.inr (by show a.length + vs.length ≤ j; omega))]
        refine h.cell j u ?_
        rw [List.getElem?_append_right (by omega), List.getElem?_append_right (by omega), ← hl]
        exact hu
  free := World.there_setCells (by
    have := h.free
    rw [show (a ++ (vs ++ z)).length = (a ++ (us ++ z)).length by simp [hl]]
    exact this) _ _ _

namespace V
def cellL (bs : List Nat) : Cell → List Value
  | .no => [.int .i64 0, .int .i64 0, .pointer none]
  | .num n => [.int .i64 1, .int .i64 n, .pointer none]
  | .ref k m => [.int .i64 2, .int .i64 k, .pointer (some ⟨bs.getD m 0, 0, none⟩)]
theorem cellL_length (bs : List Nat) (c : Cell) : (cellL bs c).length = 3 := by cases c <;> rfl
theorem cellL_one (bs : List Nat) (c : Cell) : ∀ v ∈ cellL bs c, v.oneCell' = true := by
  intro v hv
  cases c <;> simp only [cellL, List.mem_cons, List.not_mem_nil, or_false] at hv <;> rcases hv with rfl | rfl | rfl <;> rfl
def cellsK (bs : List Nat) (l : List Cell) : List Value := l.flatMap (cellL bs)
theorem cellsK_length (bs : List Nat) (l : List Cell) : (cellsK bs l).length = l.length * 3 := by
  induction l with
  | nil => rfl
  | cons b t ih => unfold cellsK at ih ⊢; rw [List.flatMap_cons, List.length_append, ih, cellL_length, List.length_cons]; omega
theorem cellsK_split (bs : List Nat) {l : List Cell} {i : Nat} (h : i < l.length) : cellsK bs l = cellsK bs (l.take i) ++ (cellL bs (l.getD i .no) ++ cellsK bs (l.drop (i + 1))) := by
  have e : l = l.take i ++ (l.getD i .no :: l.drop (i + 1)) := by
    have : l.getD i .no = l[i] := by simp [List.getD, h]
    rw [this, List.getElem_cons_drop, List.take_append_drop]
  conv => lhs; rw [e]
  unfold cellsK
  rw [List.flatMap_append, List.flatMap_cons]
theorem cellsK_set (bs : List Nat) {l : List Cell} {i : Nat} (c : Cell) (h : i < l.length) : cellsK bs (l.set i c) = cellsK bs (l.take i) ++ (cellL bs c ++ cellsK bs (l.drop (i + 1))) := by
  rw [List.set_eq_take_append_cons_drop, if_pos h]
  unfold cellsK
  rw [List.flatMap_append, List.flatMap_cons]
end V
open V
/-- the run's blocks, and what stays in it -/
structure Ev where
  R : Nat
  F : Nat
  h : Int
  v : Value
  B : Option Addr
  m : Nat
  d : Nat
  xs : List Y.In
  n : Nat
  q : Nat
  c : Nat
  ba : Nat
  bs : List Nat
  w0 : World
def headL (E : Ev) : List Value := [.int .i64 E.h, E.v, .slice E.B E.m E.d, .int .i64 (E.n : Int), .slice (some ⟨E.F, 0, none⟩) E.q E.c]
def runL (E : Ev) (s : V.St) : List Value := headL E ++ (cellsK E.bs s.reg ++ (cellsK E.bs s.stk ++ [.int .i64 s.at_, .int .i64 (s.steps : Int)]))
/-- what stays right of a run -/
structure WfS (E : Ev) (s : V.St) : Prop where
  reg : s.reg.length = 8
  stk : s.stk.length = 8
  ctx : s.ctx.length = E.q
  pure : ∀ c ∈ s.stk, isRef c = false
  refs : ∀ k m, Cell.ref k m ∈ s.reg → m < s.ds.length
  oks : ∀ d ∈ s.ds, d.ok
structure EvOk (E : Ev) : Prop where
  ins : Yq.InsAt E.w0 E.B E.m E.xs
  right : Y.all E.xs = true
  ba : E.w0.heap.size ≤ E.ba
  R : E.w0.heap.size ≤ E.R
  F : E.w0.heap.size ≤ E.F
  ne : E.R ≠ E.F
  n : (E.n : Int) = Hk.inF E.h
  q : E.n ≤ E.q
  q2 : E.q ≤ 1000
  m : E.m ≤ 1000
  cq : E.q ≤ E.c
  cm : E.c ≤ maxLen
structure RunAt (E : Ev) (S : Nat → Prop) (s : V.St) (W : World) : Prop where
  row : RowAt W E.R (runL E s)
  fld : RowAt W E.F (intV s.ctx)
  st : StAt sP E.ba E.v E.bs S s.ds W
  low : Below E.w0.heap.size E.w0 W
  hb : E.ba ≤ W.heap.size
  Rlt : E.R < W.heap.size
  Flt : E.F < W.heap.size
  nR : ¬ S E.R
  nF : ¬ S E.F
  wf : WfS E s
/-- what a call may change: the run's own blocks and its maps' -/
def Own (E : Ev) (S : Nat → Prop) (k : Nat) : Prop := S k ∨ k = E.R ∨ k = E.F
def RunTo (E : Ev) (S : Nat → Prop) (W : World) (s : V.St) (W' : World) : Prop :=
  ∃ S', RunAt E S' s W' ∧ But (Own E S) W W' ∧ ∀ k, S' k → S k ∨ W.heap.size ≤ k
theorem runL_len {E : Ev} {s : V.St} (h : WfS E s) : (runL E s).length = 55 := by
  unfold runL
  simp only [List.length_append, cellsK_length, h.reg, h.stk]
  rfl
section
variable {E : Ev} {S : Nat → Prop} {s : V.St} {W W' W'' : World}
theorem RowAt.stepn {w w' : World} {b : Nat} {vs : List Value} (h : RowAt w b vs) (hb : Below w.heap.size w w') (hlt : b < w.heap.size) : RowAt w' b vs := h.below hb hlt
theorem RunAt.step (h : RunAt E S s W) (hb : Below W.heap.size W W') : RunAt E S s W' :=
  ⟨h.row.below hb h.Rlt, h.fld.below hb h.Flt, h.st.step hb, h.low.trans (hb.mono h.low.size), Nat.le_trans h.hb hb.size, Nat.lt_of_lt_of_le h.Rlt hb.size, Nat.lt_of_lt_of_le h.Flt hb.size, h.nR, h.nF, h.wf⟩
theorem RunTo.self (h : RunAt E S s W) (hb : Below W.heap.size W W') : RunTo E S W s W' := ⟨S, h.step hb, But.of_below hb, fun _ hk => Or.inl hk⟩
theorem RunTo.trans {S' : Nat → Prop} (hb : But (Own E S) W W') (hs : ∀ k, S' k → S k ∨ W.heap.size ≤ k) (k : RunTo E S' W' s W'') : RunTo E S W s W'' := by
  obtain ⟨S2, g1, g2, g3⟩ := k
  refine ⟨S2, g1, hb.trans g2 (fun x hx => ?_), fun k hk => ?_⟩
  · rcases hx with hx | hx
    · exact (hs x hx).imp Or.inl id
    · exact Or.inl (Or.inr hx)
  · rcases g3 k hk with e | e
    · exact hs k e
    · exact Or.inr (Nat.le_trans hb.size e)
theorem RunTo.step (h : RunTo E S W s W') (hb : Below W'.heap.size W' W'') : RunTo E S W s W'' := by
  obtain ⟨S', h1, h2, h3⟩ := h
  exact RunTo.trans h2 h3 (RunTo.self h1 hb)
theorem RunTo.bind {t : V.St} (h : RunTo E S W s W') (k : ∀ S', RunAt E S' s W' → RunTo E S' W' t W'') : RunTo E S W t W'' := by
  obtain ⟨S', h1, h2, h3⟩ := h
  exact RunTo.trans h2 h3 (k S' h1)
theorem RunTo.from_ {t : V.St} (hb : Below W.heap.size W W') (h : RunTo E S W' t W'') : RunTo E S W t W'' := RunTo.trans (But.of_below hb) (fun _ hk => Or.inl hk) h
theorem Own.low (hE : EvOk E) (h : RunAt E S s W) : ∀ k, Own E S k → E.w0.heap.size ≤ k := fun k hk => by
  rcases hk with hk | rfl | rfl
  · exact Nat.le_trans hE.ba (h.st.ge hk)
  · exact hE.R
  · exact hE.F
/-! ### what lies where -/
theorem RunAt.head (h : RunAt E S s W) (j : Nat) (u : Value) (hu : (headL E)[j]? = some u) : W.cell? ⟨E.R, j, none⟩ = some u :=
  h.row.cell j u (by unfold runL; rw [List.getElem?_append_left (List.getElem?_eq_some_iff.1 hu).1]; exact hu)
theorem RunAt.frz (h : RunAt E S s W) (j : Nat) (hj : j < 55) : W.frozen? ⟨E.R, j, none⟩ = false := h.row.frozen j (by rw [runL_len h.wf]; exact hj)
theorem RunAt.regs (h : RunAt E S s W) (i : Nat) (hi : i < 8) : W.rangeAt E.R (5 + i * 3) (cellL E.bs (s.reg.getD i .no)) := fun j u hu => by
  have hj : j < 3 := by have := (List.getElem?_eq_some_iff.1 hu).1; rwa [cellL_length] at this
  refine h.row.cell _ u ?_
  unfold runL
  have hh : (headL E).length = 5 := rfl
  have hr : i < s.reg.length := by rw [h.wf.reg]; exact hi
  rw [List.getElem?_append_right (by rw [hh]; omega), hh, List.getElem?_append_left (by rw [cellsK_length, h.wf.reg]; omega), cellsK_split E.bs hr, List.getElem?_append_right (by rw [cellsK_length, List.length_take]; omega), cellsK_length, List.length_take, List.getElem?_append_left (by rw [cellL_length]; omega)]
  rw [show 5 + i * 3 + j - 5 - min i s.reg.length * 3 = j by omega]
  exact hu
theorem RunAt.stks (h : RunAt E S s W) (i : Nat) (hi : i < 8) : W.rangeAt E.R (29 + i * 3) (cellL E.bs (s.stk.getD i .no)) := fun j u hu => by
  have hj : j < 3 := by have := (List.getElem?_eq_some_iff.1 hu).1; rwa [cellL_length] at this
  refine h.row.cell _ u ?_
  unfold runL
  have hh : (headL E).length = 5 := rfl
  have hr : i < s.stk.length := by rw [h.wf.stk]; exact hi
  rw [List.getElem?_append_right (by rw [hh]; omega), hh, List.getElem?_append_right (by rw [cellsK_length, h.wf.reg]; omega), cellsK_length, h.wf.reg, List.getElem?_append_left (by rw [cellsK_length, h.wf.stk]; omega), cellsK_split E.bs hr, List.getElem?_append_right (by rw [cellsK_length, List.length_take]; omega), cellsK_length, List.length_take, List.getElem?_append_left (by rw [cellL_length]; omega)]
  rw [show 29 + i * 3 + j - 5 - 8 * 3 - min i s.stk.length * 3 = j by omega]
  exact hu
theorem RunAt.tail (h : RunAt E S s W) (j : Nat) (u : Value) (hu : [Value.int .i64 s.at_, .int .i64 (s.steps : Int)][j]? = some u) : W.cell? ⟨E.R, 53 + j, none⟩ = some u := by
  refine h.row.cell _ u ?_
  unfold runL
  have hh : (headL E).length = 5 := rfl
  rw [List.getElem?_append_right (by rw [hh]; omega), hh, List.getElem?_append_right (by rw [cellsK_length, h.wf.reg]; omega), cellsK_length, h.wf.reg, List.getElem?_append_right (by rw [cellsK_length, h.wf.stk]; omega), cellsK_length, h.wf.stk, show 53 + j - 5 - 8 * 3 - 8 * 3 = j by omega]
  exact hu
theorem RunAt.regThere (h : RunAt E S s W) (i : Nat) (hi : i < 8) : W.there E.R (5 + i * 3) 3 := fun j hj => by
  have := h.row.free (5 + i * 3 + j) (by rw [runL_len h.wf]; omega)
  rwa [Nat.zero_add] at this
theorem RunAt.stkThere (h : RunAt E S s W) (i : Nat) (hi : i < 8) : W.there E.R (29 + i * 3) 3 := fun j hj => by
  have := h.row.free (29 + i * 3 + j) (by rw [runL_len h.wf]; omega)
  rwa [Nat.zero_add] at this
theorem RunAt.field (h : RunAt E S s W) (i : Nat) (hi : i < E.q) : W.cell? ⟨E.F, i, none⟩ = some (.int .i64 (s.ctx.getD i 0)) := by
  have hl : i < s.ctx.length := by rw [h.wf.ctx]; exact hi
  refine h.fld.cell i _ ?_
  unfold intV
  rw [List.getElem?_map, List.getElem?_eq_getElem hl]
  simp [List.getD, hl]
theorem RunAt.fieldFrz (h : RunAt E S s W) (i : Nat) (hi : i < E.q) : W.frozen? ⟨E.F, i, none⟩ = false := h.fld.frozen i (by unfold intV; rw [List.length_map, h.wf.ctx]; exact hi)
/-! ### what is stored -/
theorem WfS.setR (h : WfS E s) (i : Int) (c : Cell) (hc : ∀ k m, c = .ref k m → m < s.ds.length) : WfS E (s.setR i c) where
  reg := by show (s.reg.set _ _).length = 8; rw [List.length_set]; exact h.reg
  stk := h.stk
  ctx := h.ctx
  pure := h.pure
  refs := fun k m hm => by
    rcases List.mem_or_eq_of_mem_set hm with e | e
    · exact h.refs k m e
    · exact hc k m e.symm
  oks := h.oks
theorem WfS.setS (h : WfS E s) (i n : Int) : WfS E (s.setS i (.num n)) where
  reg := h.reg
  stk := by show (s.stk.set _ _).length = 8; rw [List.length_set]; exact h.stk
  ctx := h.ctx
  pure := fun c hc => by
    rcases List.mem_or_eq_of_mem_set hc with e | e
    · exact h.pure c e
    · rw [e]; rfl
  refs := h.refs
  oks := h.oks
theorem WfS.setC (h : WfS E s) (i n : Int) : WfS E (s.setC i n) where
  reg := h.reg
  stk := h.stk
  ctx := by show (s.ctx.set _ _).length = _; rw [List.length_set]; exact h.ctx
  pure := h.pure
  refs := h.refs
  oks := h.oks
theorem ownSet (hE : EvOk E) (h : RunAt E S s W) {b : Nat} (hb : b = E.R ∨ b = E.F) (hbut : But (fun k => k = b) W W') (t : V.St) (hrow : RowAt W' E.R (runL E t)) (hfld : RowAt W' E.F (intV t.ctx)) (hds : t.ds = s.ds) (hwf : WfS E t) : RunTo E S W t W' := by
  have hn : ¬ S b := by rcases hb with rfl | rfl; exact h.nR; exact h.nF
  have hbo : But (Own E S) W W' := hbut.mono (fun x e => Or.inl (Or.inr (by rw [e]; exact hb)))
  exact ⟨S, ⟨hrow, hfld, by rw [hds]; exact h.st.keep hbut (fun k e hs => hn (e ▸ hs)), h.low.trans (hbo.below h.low.size (Own.low hE h)), Nat.le_trans h.hb hbut.size, Nat.lt_of_lt_of_le h.Rlt hbut.size, Nat.lt_of_lt_of_le h.Flt hbut.size, h.nR, h.nF, hwf⟩, hbo, fun _ hk => Or.inl hk⟩
theorem RunAt.setR (hE : EvOk E) (h : RunAt E S s W) (i : Nat) (hi : i < 8) (c : Cell) (hc : ∀ k m, c = .ref k m → m < s.ds.length) : RunTo E S W (s.setR (i : Int) c) (W.setCells E.R (5 + i * 3) (cellL E.bs c)) := by
  have hr : i < s.reg.length := by rw [h.wf.reg]; exact hi
  refine ownSet hE h (Or.inl rfl) (But.setCells _ _ _ _) _ ?_ (h.fld.put_other _ _ _ (Ne.symm hE.ne)) rfl (h.wf.setR _ _ hc)
  have h0 := h.row
  unfold runL at h0 ⊢
  rw [cellsK_split E.bs hr, List.append_assoc, List.append_assoc, ← List.append_assoc] at h0
  have h1 := h0.splice (vs := cellL E.bs c) (by rw [cellL_length, cellL_length])
  rw [List.length_append, cellsK_length, List.length_take, show min i s.reg.length = i by omega, show (headL E).length = 5 from rfl] at h1
  show RowAt _ _ (headL E ++ (cellsK E.bs (s.reg.set (i : Int).toNat c) ++ _))
  rw [Int.toNat_natCast, cellsK_set E.bs c hr, List.append_assoc, List.append_assoc, ← List.append_assoc]
  exact h1
theorem RunAt.setS (hE : EvOk E) (h : RunAt E S s W) (i : Nat) (hi : i < 8) (n : Int) : RunTo E S W (s.setS (i : Int) (.num n)) (W.setCells E.R (29 + i * 3) (cellL E.bs (.num n))) := by
  have hr : i < s.stk.length := by rw [h.wf.stk]; exact hi
  refine ownSet hE h (Or.inl rfl) (But.setCells _ _ _ _) _ ?_ (h.fld.put_other _ _ _ (Ne.symm hE.ne)) rfl (h.wf.setS _ _)
  have h0 := h.row
  unfold runL at h0 ⊢
  rw [cellsK_split E.bs hr, List.append_assoc, List.append_assoc, ← List.append_assoc, ← List.append_assoc] at h0
  have h1 := h0.splice (vs := cellL E.bs (.num n)) (by rw [cellL_length, cellL_length])
  rw [List.length_append, List.length_append, cellsK_length, cellsK_length, List.length_take, show min i s.stk.length = i by omega, show (headL E).length = 5 from rfl, h.wf.reg] at h1
  show RowAt _ _ (headL E ++ (_ ++ (cellsK E.bs (s.stk.set (i : Int).toNat (.num n)) ++ _)))
  rw [Int.toNat_natCast, cellsK_set E.bs _ hr, List.append_assoc, List.append_assoc, ← List.append_assoc, ← List.append_assoc]
  exact h1
theorem setCells_one (w : World) (b o : Nat) (v : Value) : w.setCells b o [v] = w.setCell ⟨b, o, none⟩ v := rfl
theorem RunAt.setAt (hE : EvOk E) (h : RunAt E S s W) (a : Int) : RunTo E S W { s with at_ := a } (W.setCell ⟨E.R, 53, none⟩ (.int .i64 a)) := by
  refine ownSet hE h (Or.inl rfl) (But.setCell _ _ _ _) _ ?_ (h.fld.put_other E.R 53 [.int .i64 a] (Ne.symm hE.ne)) rfl ⟨h.wf.reg, h.wf.stk, h.wf.ctx, h.wf.pure, h.wf.refs, h.wf.oks⟩
  have h0 : RowAt W E.R ((headL E ++ (cellsK E.bs s.reg ++ cellsK E.bs s.stk)) ++ ([.int .i64 s.at_] ++ [.int .i64 (s.steps : Int)])) := by
    have := h.row
    unfold runL at this
    simpa [List.append_assoc] using this
  have h1 := h0.splice (vs := [.int .i64 a]) rfl
  rw [List.length_append, List.length_append, cellsK_length, cellsK_length, h.wf.reg, h.wf.stk, show (headL E).length = 5 from rfl, setCells_one] at h1
  unfold runL
  simpa [List.append_assoc] using h1
theorem RunAt.setSteps (hE : EvOk E) (h : RunAt E S s W) (a : Nat) : RunTo E S W { s with steps := a } (W.setCell ⟨E.R, 54, none⟩ (.int .i64 (a : Int))) := by
  refine ownSet hE h (Or.inl rfl) (But.setCell _ _ _ _) _ ?_ (h.fld.put_other E.R 54 [.int .i64 (a : Int)] (Ne.symm hE.ne)) rfl ⟨h.wf.reg, h.wf.stk, h.wf.ctx, h.wf.pure, h.wf.refs, h.wf.oks⟩
  have h0 : RowAt W E.R ((headL E ++ (cellsK E.bs s.reg ++ (cellsK E.bs s.stk ++ [.int .i64 s.at_]))) ++ ([.int .i64 (s.steps : Int)] ++ [])) := by
    have := h.row
    unfold runL at this
    simpa [List.append_assoc] using this
  have h1 := h0.splice (vs := [.int .i64 (a : Int)]) rfl
  rw [List.length_append, List.length_append, List.length_append, cellsK_length, cellsK_length, h.wf.reg, h.wf.stk, show (headL E).length = 5 from rfl] at h1
  have h2 : RowAt (W.setCell ⟨E.R, 54, none⟩ (.int .i64 (a : Int))) E.R ((headL E ++ (cellsK E.bs s.reg ++ (cellsK E.bs s.stk ++ [.int .i64 s.at_]))) ++ ([.int .i64 (a : Int)] ++ [])) := h1
  unfold runL
  simpa [List.append_assoc] using h2
theorem intV_set (l : List Int) (i : Nat) (n : Int) : intV (l.set i n) = (intV l).set i (.int .i64 n) := by unfold intV; rw [List.map_set]
theorem RunAt.setC (hE : EvOk E) (h : RunAt E S s W) (i : Nat) (hi : i < E.q) (n : Int) : RunTo E S W (s.setC (i : Int) n) (W.setCell ⟨E.F, i, none⟩ (.int .i64 n)) := by
  have hl : i < (intV s.ctx).length := by unfold intV; rw [List.length_map, h.wf.ctx]; exact hi
  refine ownSet hE h (Or.inr rfl) (But.setCell _ _ _ _) _ (h.row.put_other E.F i [.int .i64 n] hE.ne) ?_ rfl (h.wf.setC _ _)
  have e : intV s.ctx = (intV s.ctx).take i ++ ([(intV s.ctx)[i]] ++ (intV s.ctx).drop (i + 1)) := by
    rw [List.singleton_append, List.getElem_cons_drop, List.take_append_drop]
  have h0 := h.fld
  rw [e] at h0
  have h1 := h0.splice (vs := [.int .i64 n]) rfl
  rw [List.length_take, show min i (intV s.ctx).length = i by omega, setCells_one] at h1
  show RowAt _ _ (intV (s.ctx.set (i : Int).toNat n))
  rw [Int.toNat_natCast, intV_set, List.set_eq_take_append_cons_drop, if_pos hl]
  exact h1
/-- the maps turn -/
theorem RunAt.maps (hE : EvOk E) (h : RunAt E S s W) {ds' : List Dt} (hto : StTo sP E.ba E.v E.bs S W ds' W') (hlen : ds'.length = s.ds.length) (hok : ∀ d ∈ ds', d.ok) : RunTo E S W { s with ds := ds' } W' := by
  obtain ⟨S', g1, g2, g3⟩ := hto
  have hbo : But (Own E S) W W' := g2.mono (fun x hx => Or.inl (Or.inl hx))
  have hw := h.wf
  have hr0 : (runL E s) ≠ [] := fun e => by have := runL_len hw; rw [e] at this; cases this
  refine ⟨S', ⟨h.row.of_block (g2.block E.R h.Rlt h.nR), h.fld.of_block (g2.block E.F h.Flt h.nF), g1, h.low.trans (hbo.below h.low.size (Own.low hE h)), Nat.le_trans h.hb g2.size, Nat.lt_of_lt_of_le h.Rlt g2.size, Nat.lt_of_lt_of_le h.Flt g2.size, fun hs => ?_, fun hs => ?_, ⟨hw.reg, hw.stk, hw.ctx, hw.pure, fun k m hm => by show m < ds'.length; rw [hlen]; exact hw.refs k m hm, hok⟩⟩, hbo, g3⟩
  · rcases g3 _ hs with e | e
    · exact h.nR e
    · have := h.Rlt; omega
  · rcases g3 _ hs with e | e
    · exact h.nF e
    · have := h.Flt; omega
end
/-! ### how calls end -/
def whyE (w : Nat) : Ending := .panicked [{ v := .iface 98 (.int .i64 (w : Int)), recovered := false }]
def verE (n : Int) : Ending := .panicked [{ v := .iface 97 (.int .i64 n), recovered := false }]
def RdE {α : Type} (enc : α → Value) : Except Nat α → Ending
  | .ok a => .returned (enc a)
  | .error w => whyE w
/-- a call that reads -/
def Rd {α : Type} (W : World) (enc : α → Value) (x : Except Nat α) (e : Ending) (w' : World) : Prop := e = RdE enc x ∧ Below W.heap.size W w'
/-- a call that changes the run -/
def Wr (E : Ev) (S : Nat → Prop) (W : World) (r : V.Res) (e : Ending) (w' : World) : Prop := match r with
  | .on s => e = .returned (.tuple #[]) ∧ RunTo E S W s w'
  | .done n s => e = verE n ∧ RunTo E S W s w'
  | .flt w s => e = whyE w ∧ RunTo E S W s w'
end Go.Proofs.Ythngbakbiocadaa

/-
  What is asked of a run: ask, within; registers that must be set, numbers.
-/
namespace Go.Proofs.Ythngbakbiocadaa
set_option maxRecDepth 100000
open Go.ChangeShapes Go.WideShapes Go.ChangeAt Go.RowKit Go.Maps
open V

def inb (k n : Int) : Bool := decide (0 ≤ k) && decide (k < n)
theorem inb_yes {k n : Int} (h : inb k n = true) : 0 ≤ k ∧ k < n := by unfold inb at h; simpa using h
theorem inb_no {k n : Int} (h : inb k n = false) : k < 0 ∨ n ≤ k := by
  unfold inb at h
  by_cases h0 : 0 ≤ k
  · simp [h0] at h; exact Or.inr h
  · exact Or.inl (by omega)
theorem within_any (k n : Int) (w : World) : Calls Try.prog 48 #[.int .i64 k, .int .i64 n] w fun e w' => e = .returned (.bool (inb k n)) ∧ w = w' := by
  unfold inb
  go_enter Try.func48, Try.ntmps48
  by_cases h : 0 ≤ k
  · have hd : decide (0 ≤ k) = true := by simpa using h
    go_wp2
    go_ret
    exact ⟨by simp [h], rfl⟩
  · have hd : decide (0 ≤ k) = false := by simpa using h
    go_wp2
    go_ret
    exact ⟨by simp [h], rfl⟩
theorem ask_yes (y : Int) (w : World) : Calls Try.prog 47 #[.bool true, .int .i64 y] w fun e w' => e = .returned (.tuple #[]) ∧ w = w' := by
  go_enter Try.func47, Try.ntmps47
  go_wp2
  go_end0
  exact ⟨rfl, rfl⟩
theorem ask_no (y : Nat) (w : World) : Calls Try.prog 47 #[.bool false, .int .i64 (y : Int)] w fun e w' => e = whyE y ∧ w = w' := by
  go_enter Try.func47, Try.ntmps47
  go_wp2
  exact ⟨rfl, rfl, rfl⟩
/-- what a register or a word is -/
def V.Cell.kind : V.Cell → Int
  | .no => 0
  | .num _ => 1
  | .ref _ _ => 2
def V.Cell.word : V.Cell → Int
  | .no => 0
  | .num n => n
  | .ref k _ => k
def V.Cell.ptr (bs : List Nat) : V.Cell → Value
  | .no => .pointer none
  | .num _ => .pointer none
  | .ref _ m => .pointer (some ⟨bs.getD m 0, 0, none⟩)
theorem cellL_eq (bs : List Nat) (c : V.Cell) : V.cellL bs c = [.int .i64 c.kind, .int .i64 c.word, c.ptr bs] := by cases c <;> rfl
theorem un_kind (c : V.Cell) : (c.kind != 0) = !c.un := by cases c <;> rfl
section
variable {E : Ev} {S : Nat → Prop} {s : V.St} {W : World}
theorem r_nat (i : Nat) : s.r (i : Int) = s.reg.getD i .no := by unfold V.St.r; rw [Int.toNat_natCast]
theorem RunAt.kind (h : RunAt E S s W) (i : Nat) (hi : i < 8) : W.cell? ⟨E.R, 5 + i * 3, none⟩ = some (.int .i64 (s.r (i : Int)).kind) := by
  have := h.regs i hi 0 _ (by rw [cellL_eq]; rfl)
  rw [r_nat]
  exact this
theorem RunAt.word (h : RunAt E S s W) (i : Nat) (hi : i < 8) : W.cell? ⟨E.R, 5 + i * 3 + 1, none⟩ = some (.int .i64 (s.r (i : Int)).word) := by
  have := h.regs i hi 1 _ (by rw [cellL_eq]; rfl)
  rw [r_nat]
  exact this
def unsetL (s : V.St) (ls : List Int) : Bool := ls.any fun k => (s.r k).un
theorem unset_succ {s : V.St} {ls : List Int} {k : Nat} {x : Int} (h : ls[k]? = some x) : unsetL s (ls.take (k + 1)) = (unsetL s (ls.take k) || (s.r x).un) := by
  unfold unsetL
  obtain ⟨hk, e⟩ := List.getElem?_eq_some_iff.1 h
  rw [List.take_succ_eq_append_getElem hk, List.any_append, e]
  simp
theorem unset_take {s : V.St} {ls : List Int} {k : Nat} (h : unsetL s (ls.take k) = true) : unsetL s ls = true := by
  unfold unsetL at *
  rw [List.any_eq_true] at *
  obtain ⟨x, hx, e⟩ := h
  exact ⟨x, List.mem_of_mem_take hx, e⟩
def noV : Unit → Value := fun _ => .tuple #[]
set_option maxHeartbeats 1000000 in
theorem askSet_any (h : RunAt E S s W) (A : Option Addr) (n c : Nat) (ls : List Int) (hn : NumsAt W A n ls) (hls : ∀ k ∈ ls, 0 ≤ k ∧ k < 8) (h5 : n ≤ 5) :
    Calls Try.prog 50 #[.pointer (some ⟨E.R, 0, none⟩), .slice A n c] W (Rd W noV (if unsetL s ls then .error 3 else .ok ())) := by
  have H := Lib.hid h
  have HN := Lib.hid hn
  have HL := Lib.hid hls
  obtain ⟨X, hX⟩ : ∃ X : Except Nat Unit, Hid ((if unsetL s ls then .error 3 else .ok ()) = X) := ⟨_, Lib.hid rfl⟩
  rw [hX.out]
  clear h hn hls
  go_enter Try.func50, Try.ntmps50
  go_wp2
  go_loopw [5, 8] (fun _ i wr => ∃ k : Nat, k ≤ n ∧ i = .int .i64 (k : Int) ∧ Hid (Below W.heap.size W wr) ∧ Hid (unsetL s (ls.take k) = false)) (fun _ i _ => n - (intOf i).toNat)
  case atStart => exact ⟨0, Nat.zero_le _, rfl, Lib.hid (Below.refl _ _), Lib.hid rfl⟩
  case round =>
    obtain ⟨k, hk, rfl, HB, HU⟩ := hrel
    by_cases hlt : k < n
    · obtain ⟨b, off, x, rfl, hb, hx, hcx⟩ := (HN.out.step HB.out).get k hlt
      obtain ⟨h0, h8⟩ := HL.out x (List.mem_of_getElem? hx)
      obtain ⟨j, rfl⟩ : ∃ j : Nat, x = (j : Int) := ⟨x.toNat, by omega⟩
      have hj : j < 8 := by omega
      have hj0 : (0 : Int) ≤ (j : Int) := by omega
      have hj8 : (j : Int) < 8 := by omega
      have hc := (H.out.step HB.out).kind j hj
      have hk0 : (0 : Int) ≤ (k : Int) := by omega
      have hk1 : (k : Int) < (n : Int) := by omega
      have HX := Lib.hid hx
      clear hx
      obtain ⟨cell, hcell⟩ : ∃ cell, Hid (s.r (j : Int) = cell) := ⟨_, Lib.hid rfl⟩
      rw [hcell.out] at hc
      have HT : Hid (unsetL s (ls.take (k + 1)) = cell.un) := Lib.hid (by rw [unset_succ HX.out, HU.out, hcell.out]; rfl)
      cases hun : cell.un with
      | true =>
        obtain rfl : cell = .no := by cases cell <;> first | rfl | cases hun
        have hc' : wr.cell? ⟨E.R, 5 + j * 3, none⟩ = some (.int .i64 0) := hc
        clear hc
        have HX2 : Hid (Rd W noV X (whyE 3) wr) := Lib.hid ⟨by rw [← hX.out, if_pos (unset_take HT.out)]; rfl, HB.out⟩
        go_wp2_with (go_at_call 47; refine (ask_no 3 _).mono ?_; rintro e w2 ⟨rfl, rfl⟩; exact ⟨rfl, HX2.out⟩)
      | false =>
        have hne : Hid ((cell.kind != 0) = true) := Lib.hid (by cases cell <;> first | rfl | cases hun)
        go_wp2_with (go_at_call 47; rw [hne.out]; refine (ask_yes 3 _).mono ?_; rintro e w2 ⟨rfl, rfl⟩)
        go_roundw
        case rel => exact ⟨k + 1, by omega, by go_num, HB, Lib.hid (by rw [HT.out, hun])⟩
        case measure => (simp [intOf] <;> omega)
    · obtain rfl : k = n := by omega
      have HX2 : Hid (Rd W noV X (.returned (.tuple #[])) wr) := Lib.hid ⟨by
        have := HU.out
        rw [List.take_of_length_le (by rw [HN.out.len]; exact Nat.le_refl _)] at this
        rw [← hX.out, this]; rfl, HB.out⟩
      clear hlt
      go_wp2
      go_end0
      exact HX2.out
end
end Go.Proofs.Ythngbakbiocadaa

/-
  A register's number, and two; a number loaded into a register.
-/
namespace Go.Proofs.Ythngbakbiocadaa
set_option maxRecDepth 100000
open Go.ChangeShapes Go.WideShapes Go.ChangeAt Go.RowKit Go.Maps
open V

theorem vvT : RowT 79 3 := ⟨⟨_, Try.underlying79, rfl⟩, by kernel_rfl⟩
theorem wpList_store_at {t : TypeId} {n : Nat} (ht : RowT t n) {ops : Array Oper} {rest : List Oper} {op : Oper} {a : Act} {Q : Exit → Act → World → Prop} {w : World} {b o : Nat} {vs : List Value} (hth : w.there b o n) (hl : vs.length = n) (ho1 : ∀ v ∈ vs, v.oneCell' = true) (hgd : op.guard = none) (x y : Operand) (ho : op.op = .store t x y)
    (hx : a.eval x = .pointer (some ⟨b, o, none⟩)) (hy : a.eval y = .agg vs.toArray) (hn : wpList Try.prog ops Q rest (a.put op.dst undef) (w.setCells b o vs)) : wpList Try.prog ops Q (op :: rest) a w :=
  wpList_store_mid hgd t x y ho b o vs.toArray hx hy (by rw [List.size_toArray, hl]; exact hth) (by rw [ht.info, List.size_toArray, hl]) (all_oneCell_toArray ho1) (by simpa using hn)
theorem num_one (n : Int) : ∀ v ∈ ([.int .i64 1, .int .i64 n, .pointer none] : List Value), v.oneCell' = true := cellL_one [] (.num n)
theorem nums_new1 (W : World) (x : Int) (t : TypeId) : NumsAt (W.alloc (.cells #[.int .i64 x] t)) (some ⟨W.heap.size, 0, none⟩) 1 [x] := nums_row (ks := [x]) (rowAt_new W [.int .i64 x] t) (by simp) rfl
theorem nums_new2 (W : World) (x y : Int) (t : TypeId) : NumsAt (W.alloc (.cells #[.int .i64 x, .int .i64 y] t)) (some ⟨W.heap.size, 0, none⟩) 2 [x, y] := nums_row (ks := [x, y]) (rowAt_new W [.int .i64 x, .int .i64 y] t) (by simp) rfl
def numV (n : Int) : Value := .int .i64 n
def num2V (p : Int × Int) : Value := .tuple #[.int .i64 p.1, .int .i64 p.2]
section
variable {E : Ev} {S : Nat → Prop} {s : V.St} {W : World}
theorem below_new (W : World) (o : Obj) : Below W.heap.size W (W.alloc o) := (Below.refl _ _).alloc (Nat.le_refl _) _
theorem askSet1 (h : RunAt E S s W) (x : Int) (hx : 0 ≤ x ∧ x < 8) (t : TypeId) :
    Calls Try.prog 50 #[.pointer (some ⟨E.R, 0, none⟩), .slice (some ⟨W.heap.size, 0, none⟩) 1 1] (W.alloc (.cells #[.int .i64 x] t)) fun e w' => e = RdE noV (if (s.r x).un then .error 3 else .ok ()) ∧ Below W.heap.size W w' := by
  refine (askSet_any (h.step (below_new W _)) _ 1 1 [x] (nums_new1 W x t) (fun k hk => by rw [List.mem_singleton] at hk; rw [hk]; exact hx) (by omega)).mono fun e w' ⟨he, hb⟩ => ⟨?_, (below_new W _).trans (hb.mono (below_new W _).size)⟩
  rw [he]
  simp [unsetL]
theorem askSet2 (h : RunAt E S s W) (x y : Int) (hx : 0 ≤ x ∧ x < 8) (hy : 0 ≤ y ∧ y < 8) (t : TypeId) :
    Calls Try.prog 50 #[.pointer (some ⟨E.R, 0, none⟩), .slice (some ⟨W.heap.size, 0, none⟩) 2 2] (W.alloc (.cells #[.int .i64 x, .int .i64 y] t)) fun e w' => e = RdE noV (if ((s.r x).un || (s.r y).un) then .error 3 else .ok ()) ∧ Below W.heap.size W w' := by
  refine (askSet_any (h.step (below_new W _)) _ 2 2 [x, y] (nums_new2 W x y t) (fun k hk => by
    rcases List.mem_cons.1 hk with e | hk
    · rw [e]; exact hx
    · rw [List.mem_singleton] at hk; rw [hk]; exact hy) (by omega)).mono fun e w' ⟨he, hb⟩ => ⟨?_, (below_new W _).trans (hb.mono (below_new W _).size)⟩
  rw [he]
  simp [unsetL]
theorem askSet1_ok (h : RunAt E S s W) (x : Int) (hx : 0 ≤ x ∧ x < 8) (hu : (s.r x).un = false) (t : TypeId) :
    Calls Try.prog 50 #[.pointer (some ⟨E.R, 0, none⟩), .slice (some ⟨W.heap.size, 0, none⟩) 1 1] (W.alloc (.cells #[.int .i64 x] t)) fun e w' => e = .returned (.tuple #[]) ∧ Below W.heap.size W w' := by
  have := askSet1 h x hx t
  rw [hu] at this
  exact this
theorem askSet1_no (h : RunAt E S s W) (x : Int) (hx : 0 ≤ x ∧ x < 8) (hu : (s.r x).un = true) (t : TypeId) :
    Calls Try.prog 50 #[.pointer (some ⟨E.R, 0, none⟩), .slice (some ⟨W.heap.size, 0, none⟩) 1 1] (W.alloc (.cells #[.int .i64 x] t)) fun e w' => e = whyE 3 ∧ Below W.heap.size W w' := by
  have := askSet1 h x hx t
  rw [hu] at this
  exact this
theorem askSet2_ok (h : RunAt E S s W) (x y : Int) (hx : 0 ≤ x ∧ x < 8) (hy : 0 ≤ y ∧ y < 8) (hu : (s.r x).un = false) (hv : (s.r y).un = false) (t : TypeId) :
    Calls Try.prog 50 #[.pointer (some ⟨E.R, 0, none⟩), .slice (some ⟨W.heap.size, 0, none⟩) 2 2] (W.alloc (.cells #[.int .i64 x, .int .i64 y] t)) fun e w' => e = .returned (.tuple #[]) ∧ Below W.heap.size W w' := by
  have := askSet2 h x y hx hy t
  rw [hu, hv] at this
  exact this
theorem askSet2_no (h : RunAt E S s W) (x y : Int) (hx : 0 ≤ x ∧ x < 8) (hy : 0 ≤ y ∧ y < 8) (hu : ((s.r x).un || (s.r y).un) = true) (t : TypeId) :
    Calls Try.prog 50 #[.pointer (some ⟨E.R, 0, none⟩), .slice (some ⟨W.heap.size, 0, none⟩) 2 2] (W.alloc (.cells #[.int .i64 x, .int .i64 y] t)) fun e w' => e = whyE 3 ∧ Below W.heap.size W w' := by
  have := askSet2 h x y hx hy t
  rw [hu] at this
  exact this
theorem HidB {w a b : World} (h : Hid (Below w.heap.size w a)) (k : Below a.heap.size a b) : Hid (Below w.heap.size w b) := Lib.hid (h.out.trans (k.mono h.out.size))
set_option maxHeartbeats 1000000 in
theorem number_nat (h : RunAt E S s W) (i : Nat) (hi : i < 8) : Calls Try.prog 53 #[.pointer (some ⟨E.R, 0, none⟩), .int .i64 (i : Int)] W (Rd W numV (s.r (i : Int)).nm) := by
  obtain ⟨cell, hcell⟩ : ∃ cell, s.r (i : Int) = cell := ⟨_, rfl⟩
  have hR := fun W' (hb : Below W.heap.size W W') => (h.step hb).regs i hi
  rw [← r_nat, hcell] at hR
  have HR := Lib.hid hR
  have hi0 : (0 : Int) ≤ (i : Int) := by omega
  have hi8 : (i : Int) < 8 := by omega
  rw [hcell]
  cases cell with
  | no =>
    have HA := Lib.hid (askSet1_no h (i : Int) ⟨hi0, hi8⟩ (by rw [hcell]; rfl))
    clear hR h hcell
    go_enter Try.func53, Try.ntmps53
    go_wp2_with (go_at_call 50; refine (HA.out _).mono ?_; rintro e w2 ⟨rfl, hb⟩; exact ⟨rfl, rfl, hb⟩)
  | num n =>
    have HA := Lib.hid (askSet1_ok h (i : Int) ⟨hi0, hi8⟩ (by rw [hcell]; rfl))
    clear hR h hcell
    go_enter Try.func53, Try.ntmps53
    go_wp2_with (first
      | (go_at_call 50; refine (HA.out _).mono ?_; rintro e w2 ⟨rfl, hb⟩; have HB := Lib.hid hb; have HC := Lib.hid (HR.out _ hb); clear hb)
      | ((with_reducible refine wpList_load_at vvT (vs := [.int .i64 1, .int .i64 n, .pointer none]) HC.out rfl rfl (.tmp 14) rfl ?_ ?_); (exact rfl))
      | (go_at_call 47; refine (ask_yes _ _).mono ?_; rintro e w5 ⟨rfl, rfl⟩))
    go_ret
    exact ⟨rfl, (HidB HB (below_new _ _)).out⟩
  | ref k m =>
    have HA := Lib.hid (askSet1_ok h (i : Int) ⟨hi0, hi8⟩ (by rw [hcell]; rfl))
    clear hR h hcell
    go_enter Try.func53, Try.ntmps53
    go_wp2_with (first
      | (go_at_call 50; refine (HA.out _).mono ?_; rintro e w2 ⟨rfl, hb⟩; have HB := Lib.hid hb; have HC := Lib.hid (HR.out _ hb); clear hb)
      | ((with_reducible refine wpList_load_at vvT (vs := [.int .i64 2, .int .i64 k, .pointer (some ⟨E.bs.getD m 0, 0, none⟩)]) HC.out rfl rfl (.tmp 14) rfl ?_ ?_); (exact rfl))
      | (go_at_call 47; refine (ask_no 4 _).mono ?_; rintro e w5 ⟨rfl, rfl⟩; exact ⟨rfl, rfl, (HidB HB (below_new _ _)).out⟩))
theorem number_any (h : RunAt E S s W) (i : Int) (hi : 0 ≤ i ∧ i < 8) : Calls Try.prog 53 #[.pointer (some ⟨E.R, 0, none⟩), .int .i64 i] W (Rd W numV (s.r i).nm) := by
  obtain ⟨j, rfl⟩ : ∃ j : Nat, i = (j : Int) := ⟨i.toNat, by omega⟩
  exact number_nat h j (by omega)
theorem number_ok (h : RunAt E S s W) (i : Int) (hi : 0 ≤ i ∧ i < 8) {n : Int} (hn : (s.r i).nm = .ok n) : Calls Try.prog 53 #[.pointer (some ⟨E.R, 0, none⟩), .int .i64 i] W fun e w' => e = .returned (.int .i64 n) ∧ Below W.heap.size W w' := by
  have := number_any h i hi
  rw [hn] at this
  exact this
theorem number_no (h : RunAt E S s W) (i : Int) (hi : 0 ≤ i ∧ i < 8) {y : Nat} (hn : (s.r i).nm = .error y) : Calls Try.prog 53 #[.pointer (some ⟨E.R, 0, none⟩), .int .i64 i] W fun e w' => e = whyE y ∧ Below W.heap.size W w' := by
  have := number_any h i hi
  rw [hn] at this
  exact this
theorem un_nm {c : V.Cell} (h : c.un = true) : c.nm = .error 3 := by cases c <;> first | rfl | cases h
set_option maxHeartbeats 1000000 in
theorem numbers_any (h : RunAt E S s W) (i j : Int) (hi : 0 ≤ i ∧ i < 8) (hj : 0 ≤ j ∧ j < 8) : Calls Try.prog 57 #[.pointer (some ⟨E.R, 0, none⟩), .int .i64 i, .int .i64 j] W (Rd W num2V (rd2 (s.r i) (s.r j))) := by
  cases hu : (s.r i).un || (s.r j).un with
  | true =>
    have HA := Lib.hid (askSet2_no h i j hi hj hu)
    have e : rd2 (s.r i) (s.r j) = .error 3 := by unfold rd2; rw [if_pos hu]
    rw [e]
    clear hu e h
    go_enter Try.func57, Try.ntmps57
    go_wp2_with (go_at_call 50; refine (HA.out _).mono ?_; rintro e w2 ⟨rfl, hb⟩; exact ⟨rfl, rfl, hb⟩)
  | false =>
    have hu2 := hu
    rw [Bool.or_eq_false_iff] at hu2
    have HA := Lib.hid (askSet2_ok h i j hi hj hu2.1 hu2.2)
    have H := Lib.hid h
    cases ha : (s.r i).nm with
    | error y =>
      have HX := Lib.hid (fun W' (hb : Below W.heap.size W W') => number_no (h.step hb) i hi ha)
      have e : rd2 (s.r i) (s.r j) = .error y := by unfold rd2; rw [if_neg (by rw [hu]; decide), ha]
      rw [e]
      clear hu hu2 e h ha
      go_enter Try.func57, Try.ntmps57
      go_wp2_with (first
        | (go_at_call 50; refine (HA.out _).mono ?_; rintro e w2 ⟨rfl, hb⟩; have HB := Lib.hid hb; clear hb)
        | (go_at_call 53; refine (HX.out _ HB.out).mono ?_; rintro e w3 ⟨rfl, hb⟩; exact ⟨rfl, rfl, (HidB HB hb).out⟩))
    | ok a =>
      have HX := Lib.hid (fun W' (hb : Below W.heap.size W W') => number_ok (h.step hb) i hi ha)
      cases hb2 : (s.r j).nm with
      | error y =>
        have HY := Lib.hid (fun W' (hb : Below W.heap.size W W') => number_no (h.step hb) j hj hb2)
        have e : rd2 (s.r i) (s.r j) = .error y := by unfold rd2; rw [if_neg (by rw [hu]; decide), ha, hb2]
        rw [e]
        clear hu hu2 e h ha hb2
        go_enter Try.func57, Try.ntmps57
        go_wp2_with (first
          | (go_at_call 50; refine (HA.out _).mono ?_; rintro e w2 ⟨rfl, hb⟩; have HB := Lib.hid hb; clear hb)
          | (go_at_call 53; (first | ((with_reducible refine (HX.out _ HB.out).mono ?_); rintro e w3 ⟨rfl, hb⟩; have HB3 := HidB HB hb; clear hb HX) | ((with_reducible refine (HY.out _ HB3.out).mono ?_); rintro e w3 ⟨rfl, hb⟩; exact ⟨rfl, rfl, (HidB HB3 hb).out⟩))))
      | ok b =>
        have HY := Lib.hid (fun W' (hb : Below W.heap.size W W') => number_ok (h.step hb) j hj hb2)
        have e : rd2 (s.r i) (s.r j) = .ok (a, b) := by unfold rd2; rw [if_neg (by rw [hu]; decide), ha, hb2]
        rw [e]
        clear hu hu2 e h ha hb2
        go_enter Try.func57, Try.ntmps57
        go_wp2_with (first
          | (go_at_call 50; refine (HA.out _).mono ?_; rintro e w2 ⟨rfl, hb⟩; have HB := Lib.hid hb; clear hb)
          | (go_at_call 53; (first | ((with_reducible refine (HX.out _ HB.out).mono ?_); rintro e w3 ⟨rfl, hb⟩; have HB3 := HidB HB hb; clear hb HX) | ((with_reducible refine (HY.out _ HB3.out).mono ?_); rintro e w3 ⟨rfl, hb⟩; have HB4 := HidB HB3 hb; clear hb))))
        go_ret2
        exact ⟨rfl, HB4.out⟩
set_option maxHeartbeats 1000000 in
theorem load_any (hE : EvOk E) (h : RunAt E S s W) (i n : Int) (hi : 0 ≤ i ∧ i < 8) : Calls Try.prog 51 #[.pointer (some ⟨E.R, 0, none⟩), .int .i64 i, .int .i64 n] W fun e w' => e = .returned (.tuple #[]) ∧ RunTo E S W (s.setR i (.num n)) w' := by
  obtain ⟨j, rfl⟩ : ∃ j : Nat, i = (j : Int) := ⟨i.toNat, by omega⟩
  have hj : j < 8 := by omega
  have hi0 : (0 : Int) ≤ (j : Int) := by omega
  have hi8 : (j : Int) < 8 := by omega
  have HT := Lib.hid (h.regThere j hj)
  have HR := Lib.hid (h.setR hE j hj (.num n) (fun k m e => by cases e))
  clear h hi
  go_enter Try.func51, Try.ntmps51
  go_wp2_with (first
    | ((with_reducible refine wpList_store_at vvT (vs := [.int .i64 1, .int .i64 n, .pointer none]) HT.out rfl (num_one n) rfl (.tmp 12) (.tmp 9) rfl ?_ ?_ ?_); (exact rfl); (exact rfl)))
  go_end0
  exact ⟨rfl, HR.out⟩
end
end Go.Proofs.Ythngbakbiocadaa

/-
  A run's fields and stack words, read and written.
-/
namespace Go.Proofs.Ythngbakbiocadaa
set_option maxRecDepth 100000
open Go.ChangeShapes Go.WideShapes Go.ChangeAt Go.RowKit Go.Maps
open V

theorem inb_of {k n : Int} (h : 0 ≤ k ∧ k < n) : inb k n = true := by unfold inb; simp [h.1, h.2]
theorem inb_not {k n : Int} (h : k < 0 ∨ n ≤ k) : inb k n = false := by
  cases e : inb k n with
  | false => rfl
  | true => have := inb_yes e; omega
section
variable {E : Ev} {S : Nat → Prop} {s : V.St} {W : World}
set_option maxHeartbeats 1000000 in
theorem fieldv_ok (h : RunAt E S s W) (k : Int) (hk : 0 ≤ k ∧ k < (E.q : Int)) : Calls Try.prog 52 #[.pointer (some ⟨E.R, 0, none⟩), .int .i64 k] W fun e w' => e = .returned (.int .i64 (s.ctx.getD k.toNat 0)) ∧ Below W.heap.size W w' := by
  obtain ⟨j, rfl⟩ : ∃ j : Nat, k = (j : Int) := ⟨k.toNat, by omega⟩
  have c4 := h.head 4 _ rfl
  have cf := h.field j (by omega)
  rw [Int.toNat_natCast]
  have hi := Lib.hid (inb_of hk)
  obtain ⟨h0, h1⟩ := hk
  clear h
  go_enter Try.func52, Try.ntmps52
  go_wp2_with (first
    | (go_at_call 48; refine (within_any _ _ _).mono ?_; rintro e w2 ⟨rfl, rfl⟩; rw [hi.out])
    | (go_at_call 47; refine (ask_yes _ _).mono ?_; rintro e w2 ⟨rfl, rfl⟩))
  go_ret
  exact ⟨rfl, Below.refl _ _⟩
theorem fieldv_no (h : RunAt E S s W) (k : Int) (hk : k < 0 ∨ (E.q : Int) ≤ k) : Calls Try.prog 52 #[.pointer (some ⟨E.R, 0, none⟩), .int .i64 k] W fun e w' => e = whyE 5 ∧ Below W.heap.size W w' := by
  have c4 := h.head 4 _ rfl
  have hi := Lib.hid (inb_not hk)
  clear h hk
  go_enter Try.func52, Try.ntmps52
  go_wp2_with (first
    | (go_at_call 48; refine (within_any _ _ _).mono ?_; rintro e w2 ⟨rfl, rfl⟩; rw [hi.out])
    | (go_at_call 47; refine (ask_no 5 _).mono ?_; rintro e w2 ⟨rfl, rfl⟩; exact ⟨rfl, rfl, Below.refl _ _⟩))
theorem stkCell (h : RunAt E S s W) (j : Nat) (hj : j < 8) : W.cell? ⟨E.R, 29 + j * 3, none⟩ = some (.int .i64 (s.stk.getD j .no).kind) ∧ W.cell? ⟨E.R, 29 + j * 3 + 1, none⟩ = some (.int .i64 (s.stk.getD j .no).word) :=
  ⟨h.stks j hj 0 _ (by rw [cellL_eq]; rfl), h.stks j hj 1 _ (by rw [cellL_eq]; rfl)⟩
set_option maxHeartbeats 1000000 in
theorem wordv_ok (h : RunAt E S s W) (k : Int) (hk : 0 ≤ k ∧ k < 8) (hu : (s.stk.getD k.toNat .no).un = false) : Calls Try.prog 55 #[.pointer (some ⟨E.R, 0, none⟩), .int .i64 k] W fun e w' => e = .returned (.int .i64 (s.stk.getD k.toNat .no).word) ∧ Below W.heap.size W w' := by
  obtain ⟨j, rfl⟩ : ∃ j : Nat, k = (j : Int) := ⟨k.toNat, by omega⟩
  rw [Int.toNat_natCast] at hu ⊢
  obtain ⟨c0, c1⟩ := stkCell h j (by omega)
  have hi := Lib.hid (inb_of hk)
  have hne : Hid (((s.stk.getD j .no).kind != 0) = true) := Lib.hid (by rw [un_kind, hu]; rfl)
  obtain ⟨h0, h1⟩ := hk
  clear h hu
  generalize s.stk.getD j .no = cell at c0 c1 hne ⊢
  go_enter Try.func55, Try.ntmps55
  go_wp2_with (first
    | (go_at_call 48; refine (within_any _ _ _).mono ?_; rintro e w2 ⟨rfl, rfl⟩; rw [hi.out])
    | (go_at_call 47; (try rw [hne.out]); refine (ask_yes _ _).mono ?_; rintro e w2 ⟨rfl, rfl⟩))
  go_ret
  exact ⟨rfl, Below.refl _ _⟩
set_option maxHeartbeats 1000000 in
theorem wordv_blank (h : RunAt E S s W) (k : Int) (hk : 0 ≤ k ∧ k < 8) (hu : (s.stk.getD k.toNat .no).un = true) : Calls Try.prog 55 #[.pointer (some ⟨E.R, 0, none⟩), .int .i64 k] W fun e w' => e = whyE 8 ∧ Below W.heap.size W w' := by
  obtain ⟨j, rfl⟩ : ∃ j : Nat, k = (j : Int) := ⟨k.toNat, by omega⟩
  rw [Int.toNat_natCast] at hu
  obtain ⟨c0, c1⟩ := stkCell h j (by omega)
  have hi := Lib.hid (inb_of hk)
  have e0 : s.stk.getD j .no = .no := by
    generalize s.stk.getD j .no = cell at hu
    cases cell <;> first | rfl | cases hu
  rw [e0] at c0 c1
  have c0' : W.cell? ⟨E.R, 29 + j * 3, none⟩ = some (.int .i64 0) := c0
  obtain ⟨h0, h1⟩ := hk
  clear h hu e0 c0 c1
  go_enter Try.func55, Try.ntmps55
  go_wp2_with (first
    | (go_at_call 48; refine (within_any _ _ _).mono ?_; rintro e w2 ⟨rfl, rfl⟩; rw [hi.out])
    | (go_at_call 47; (first | (with_reducible refine (ask_yes _ _).mono ?_; rintro e w2 ⟨rfl, rfl⟩) | (refine (ask_no 8 _).mono ?_; rintro e w2 ⟨rfl, rfl⟩; exact ⟨rfl, rfl, Below.refl _ _⟩))))
theorem wordv_out (h : RunAt E S s W) (k : Int) (hk : k < 0 ∨ 8 ≤ k) : Calls Try.prog 55 #[.pointer (some ⟨E.R, 0, none⟩), .int .i64 k] W fun e w' => e = whyE 7 ∧ Below W.heap.size W w' := by
  have hi := Lib.hid (inb_not hk)
  clear h hk
  go_enter Try.func55, Try.ntmps55
  go_wp2_with (first
    | (go_at_call 48; refine (within_any _ _ _).mono ?_; rintro e w2 ⟨rfl, rfl⟩; rw [hi.out])
    | (go_at_call 47; refine (ask_no 7 _).mono ?_; rintro e w2 ⟨rfl, rfl⟩; exact ⟨rfl, rfl, Below.refl _ _⟩))
set_option maxHeartbeats 1000000 in
theorem setField_any (hE : EvOk E) (h : RunAt E S s W) (k n : Int) : Calls Try.prog 54 #[.pointer (some ⟨E.R, 0, none⟩), .int .i64 k, .int .i64 n] W (Wr E S W (stctx E.h k n s)) := by
  have c3 := h.head 3 _ rfl
  have c4 := h.head 4 _ rfl
  have hq : (s.ctx.length : Int) = (E.q : Int) := by rw [h.wf.ctx]
  unfold stctx
  by_cases hk : k < 0 ∨ (s.ctx.length : Int) ≤ k
  · rw [if_pos hk]
    have hi := Lib.hid (inb_not (n := (E.q : Int)) (by rw [← hq]; exact hk))
    have HT := Lib.hid (RunTo.self h (Below.refl _ _))
    clear h hk hq
    go_enter Try.func54, Try.ntmps54
    go_wp2_with (first
      | (go_at_call 48; refine (within_any _ _ _).mono ?_; rintro e w2 ⟨rfl, rfl⟩; rw [hi.out])
      | (go_at_call 47; refine (ask_no 5 _).mono ?_; rintro e w2 ⟨rfl, rfl⟩; exact ⟨rfl, rfl, HT.out⟩))
  · rw [if_neg hk]
    obtain ⟨j, rfl⟩ : ∃ j : Nat, k = (j : Int) := ⟨k.toNat, by omega⟩
    have hi := Lib.hid (inb_of (k := (j : Int)) (n := (E.q : Int)) (by rw [← hq]; omega))
    have hn := hE.n
    by_cases hk2 : (j : Int) < Hk.inF E.h
    · rw [if_pos hk2]
      have hg : ¬ (E.n : Int) ≤ (j : Int) := by omega
      have HT := Lib.hid (RunTo.self h (Below.refl _ _))
      have hd : Hid (decide (E.n ≤ j) = false) := Lib.hid (by simp; omega)
      clear h hk hk2 hn hq
      go_enter Try.func54, Try.ntmps54
      go_wp2_with (first
        | (go_at_call 48; refine (within_any _ _ _).mono ?_; rintro e w2 ⟨rfl, rfl⟩; rw [hi.out])
        | (go_at_call 47; (try rw [hd.out]); (first | (with_reducible refine (ask_yes _ _).mono ?_; rintro e w2 ⟨rfl, rfl⟩) | (refine (ask_no 6 _).mono ?_; rintro e w2 ⟨rfl, rfl⟩; exact ⟨rfl, rfl, HT.out⟩))))
    · rw [if_neg hk2]
      have hg : (E.n : Int) ≤ (j : Int) := by omega
      have hjq : j < E.q := by omega
      have hj0 : (0 : Int) ≤ (j : Int) := by omega
      have hj1 : (j : Int) < (E.q : Int) := by omega
      have cf := h.field j hjq
      have ff := h.fieldFrz j hjq
      have HT := Lib.hid (h.setC hE j hjq n)
      clear h hk hk2 hn hq
      go_enter Try.func54, Try.ntmps54
      go_wp2_with (first
        | (go_at_call 48; refine (within_any _ _ _).mono ?_; rintro e w2 ⟨rfl, rfl⟩; rw [hi.out])
        | (go_at_call 47; refine (ask_yes _ _).mono ?_; rintro e w2 ⟨rfl, rfl⟩))
      go_end0
      exact ⟨rfl, HT.out⟩
set_option maxHeartbeats 1000000 in
theorem setWord_any (hE : EvOk E) (h : RunAt E S s W) (k n : Int) : Calls Try.prog 56 #[.pointer (some ⟨E.R, 0, none⟩), .int .i64 k, .int .i64 n] W (Wr E S W (ststk k n s)) := by
  unfold ststk
  by_cases hk : k < 0 ∨ 8 ≤ k
  · rw [if_pos hk]
    have hi := Lib.hid (inb_not (n := 8) hk)
    have HT := Lib.hid (RunTo.self h (Below.refl _ _))
    clear h hk
    go_enter Try.func56, Try.ntmps56
    go_wp2_with (first
      | (go_at_call 48; refine (within_any _ _ _).mono ?_; rintro e w2 ⟨rfl, rfl⟩; rw [hi.out])
      | (go_at_call 47; refine (ask_no 7 _).mono ?_; rintro e w2 ⟨rfl, rfl⟩; exact ⟨rfl, rfl, HT.out⟩))
  · rw [if_neg hk]
    obtain ⟨j, rfl⟩ : ∃ j : Nat, k = (j : Int) := ⟨k.toNat, by omega⟩
    have hi := Lib.hid (inb_of (k := (j : Int)) (n := 8) (by omega))
    have hj : j < 8 := by omega
    have hj0 : (0 : Int) ≤ (j : Int) := by omega
    have hj1 : (j : Int) < 8 := by omega
    have HT := Lib.hid (h.stkThere j hj)
    have HR := Lib.hid (h.setS hE j hj n)
    clear h hk
    go_enter Try.func56, Try.ntmps56
    go_wp2_with (first
      | (go_at_call 48; refine (within_any _ _ _).mono ?_; rintro e w2 ⟨rfl, rfl⟩; rw [hi.out])
      | (go_at_call 47; refine (ask_yes _ _).mono ?_; rintro e w2 ⟨rfl, rfl⟩)
      | ((with_reducible refine wpList_store_at vvT (vs := [.int .i64 1, .int .i64 n, .pointer none]) HT.out rfl (num_one n) rfl (.tmp 15) (.tmp 12) rfl ?_ ?_ ?_); (exact rfl); (exact rfl)))
    go_end0
    exact ⟨rfl, HR.out⟩
end
end Go.Proofs.Ythngbakbiocadaa

/-
  Arithmetic: what the program reckons, as a plain function.
-/
namespace Go.Proofs.Ythngbakbiocadaa
set_option maxRecDepth 100000
open Go.ChangeShapes Go.WideShapes Go.ChangeAt Go.RowKit Go.Maps
open V

def shlF (a b : Int) : Int := wrap64 (a * 2 ^ b.toNat)
def shrF (a b : Int) : Int := wrap64 (IntKind.u64.wrap a / 2 ^ b.toNat)
/-- what an Op reckons -/
def ariF (o a b : Int) : Int :=
  if o = 16 then wrap64 (a + b) else if o = 21 then wrap64 (a + b) else if o = 17 then wrap64 (a - b) else if o = 22 then wrap64 (a - b)
  else if o = 18 then bits BinOp.and IntKind.i64 a b else if o = 23 then bits BinOp.and IntKind.i64 a b
  else if o = 19 then bits BinOp.or IntKind.i64 a b else if o = 24 then bits BinOp.or IntKind.i64 a b
  else if o = 20 then wrap64 (a * b) else if o = 25 then wrap64 (a * b)
  else if o = 26 then shlF a b else shrF a b
def ResC (o a b : Int) : Prop := ∀ w, Calls Try.prog 72 #[.int .i64 o, .int .i64 a, .int .i64 b] w fun e w' => e = .returned (.int .i64 (ariF o a b)) ∧ w = w'
theorem res_16 (a b : Int) : ResC 16 a b := fun w => by
  go_enter Try.func72, Try.ntmps72
  go_wp2
  go_ret
  exact ⟨rfl, rfl⟩
theorem res_17 (a b : Int) : ResC 17 a b := fun w => by
  go_enter Try.func72, Try.ntmps72
  go_wp2
  go_ret
  exact ⟨rfl, rfl⟩
theorem res_18 (a b : Int) : ResC 18 a b := fun w => by
  go_enter Try.func72, Try.ntmps72
  go_wp2
  go_ret
  exact ⟨rfl, rfl⟩
theorem res_19 (a b : Int) : ResC 19 a b := fun w => by
  go_enter Try.func72, Try.ntmps72
  go_wp2
  go_ret
  exact ⟨rfl, rfl⟩
theorem res_20 (a b : Int) : ResC 20 a b := fun w => by
  go_enter Try.func72, Try.ntmps72
  go_wp2
  go_ret
  exact ⟨rfl, rfl⟩
theorem res_21 (a b : Int) : ResC 21 a b := fun w => by
  go_enter Try.func72, Try.ntmps72
  go_wp2
  go_ret
  exact ⟨rfl, rfl⟩
theorem res_22 (a b : Int) : ResC 22 a b := fun w => by
  go_enter Try.func72, Try.ntmps72
  go_wp2
  go_ret
  exact ⟨rfl, rfl⟩
theorem res_23 (a b : Int) : ResC 23 a b := fun w => by
  go_enter Try.func72, Try.ntmps72
  go_wp2
  go_ret
  exact ⟨rfl, rfl⟩
theorem res_24 (a b : Int) : ResC 24 a b := fun w => by
  go_enter Try.func72, Try.ntmps72
  go_wp2
  go_ret
  exact ⟨rfl, rfl⟩
theorem res_25 (a b : Int) : ResC 25 a b := fun w => by
  go_enter Try.func72, Try.ntmps72
  go_wp2
  go_ret
  exact ⟨rfl, rfl⟩
theorem res_26 (a : Int) (b : Nat) (hb : b ≤ 63) : ResC 26 a (b : Int) := fun w => by
  have h0 : ¬ ((b : Int) < 0) := by omega
  go_enter Try.func72, Try.ntmps72
  go_wp2
  go_ret
  show Ending.returned _ = Ending.returned _ ∧ _
  trace_state
  exact ⟨rfl, rfl⟩
theorem res_27 (a : Int) (b : Nat) (hb : b ≤ 63) : ResC 27 a (b : Int) := fun w => by
  have h0 : ¬ ((b : Int) < 0) := by omega
  go_enter Try.func72, Try.ntmps72
  go_wp2
  go_ret
  exact ⟨rfl, rfl⟩
theorem result_any (o a b : Int) (ho : 16 ≤ o ∧ o ≤ 27) (hb : o = 26 ∨ o = 27 → 0 ≤ b ∧ b ≤ 63) : ResC o a b := by
  have hc : o = 16 ∨ o = 17 ∨ o = 18 ∨ o = 19 ∨ o = 20 ∨ o = 21 ∨ o = 22 ∨ o = 23 ∨ o = 24 ∨ o = 25 ∨ o = 26 ∨ o = 27 := by omega
  rcases hc with rfl | rfl | rfl | rfl | rfl | rfl | rfl | rfl | rfl | rfl | rfl | rfl
  · exact res_16 a b
  · exact res_17 a b
  · exact res_18 a b
  · exact res_19 a b
  · exact res_20 a b
  · exact res_21 a b
  · exact res_22 a b
  · exact res_23 a b
  · exact res_24 a b
  · exact res_25 a b
  · obtain ⟨h0, h1⟩ := hb (Or.inl rfl)
    obtain ⟨c, rfl⟩ : ∃ c : Nat, b = (c : Int) := ⟨b.toNat, by omega⟩
    exact res_26 a c (by omega)
  · obtain ⟨h0, h1⟩ := hb (Or.inr rfl)
    obtain ⟨c, rfl⟩ : ∃ c : Nat, b = (c : Int) := ⟨b.toNat, by omega⟩
    exact res_27 a c (by omega)
end Go.Proofs.Ythngbakbiocadaa
