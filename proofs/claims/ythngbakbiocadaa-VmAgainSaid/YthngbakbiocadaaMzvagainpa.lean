/-
  Two runs of one handler beside one another: what they leave; what stays while their outcomes are compared.
-/
import Derived.Test.YthngbakbiocadaaMk
import Derived.Test.YthngbakbiocadaaMi
import Derived.Test.YthngbakbiocadaaMc
import Derived.Test.YthngbakbiocadaaMj
import Derived.BigQuiet

namespace Go.Proofs.Ythngbakbiocadaa
set_option maxRecDepth 100000
open Go.ChangeShapes Go.WideShapes Go.ChangeAt Go.RowKit Go.Maps

theorem NumsAt.but {w w' : World} {A : Option Addr} {n : Nat} {ks : List Int} {S : Nat → Prop} (h : NumsAt w A n ks) (hb : But S w w') (hA : ∀ b off, A = some ⟨b, off, none⟩ → ¬ S b) : NumsAt w' A n ks :=
  ⟨h.len, ⟨fun h0 => by
    obtain ⟨b, off, e, hlt, hc⟩ := h.rows.cells h0
    exact ⟨b, off, e, Nat.lt_of_lt_of_le hlt hb.size, fun i r hi j v hv => (World.cell?_of_block (a := ⟨b, off + i * 1 + j, none⟩) (hb.block b hlt (hA b off e))).trans (hc i r hi j v hv)⟩⟩⟩
theorem get_has {k : Int} {l : List Z.En} (h : Z.has k l = true) : ∃ x, Z.getI k l = some x := by
  rw [Z.pos_has] at h
  unfold Z.getI
  cases hp : Z.pos k l with
  | none => rw [hp] at h; cases h
  | some i =>
    obtain ⟨x, hx, _⟩ := Z.pos_some hp
    exact ⟨x, hx⟩
/-- the outcome of a run that may be refused -/
structure AgF (h : Int) (fs : List Fl) (o : VOut) : Prop where
  len : o.ds.length = fs.length
  ok : ∀ (i : Nat) (d : Dt), o.ds[i]? = some d → d.ok
  keys : Hk.toldF h = false → ∀ (i : Nat) (f : Fl) (d : Dt), fs[i]? = some f → o.ds[i]? = some d → V.Keys (dtF f) d
  out : o.out.length ≤ 6
theorem again_facts (K : V.Calc) (hi : Int → Bool) (h : Int) (ks : List Int) (xs : List Y.In) (fs : List Fl) (hg : fs.all goodFl = true) : AgF h fs (outOf K hi h (ctxF h ks) xs (dsF fs)) := by
  by_cases hok : okRun h (ctxF h ks) xs = true
  · have hk : Hk.knownF h = true ∧ Y.all xs = true := by
      unfold okRun at hok
      simp only [Bool.and_eq_true] at hok
      exact ⟨hok.1.1, hok.2⟩
    have he := ends_facts K hi h ks xs fs hk.1 hk.2 hg
    have hr := outF_range h
    refine ⟨he.len, fun i d hd => ?_, fun ht i f d hf hd => ?_, by have := he.out; omega⟩
    · have hlt : i < fs.length := by rw [← he.len]; exact (List.getElem?_eq_some_iff.1 hd).1
      exact (he.fits i _ d (List.getElem?_eq_getElem hlt) hd).1
    · have hG := V.run_ends K hi h xs (V.beside_keeps V.Keys (dsF fs)) (V.keys_keepsD ht (dsF fs)) (V.beside_blind V.Keys (dsF fs)) 65 (V.start h (ctxF h ks) (dsF fs)) (Nat.zero_le _) (by show 65 ≤ 0 + 65; omega)
        (start_beside h _ _ V.Keys (fun d _ => ⟨rfl, fun _ q => q⟩))
      unfold outOf at hd
      rw [if_pos hok] at hd
      have hd' : (V.run K hi h xs 65 (V.start h (ctxF h ks) (dsF fs))).s.ds[i]? = some d := hd
      generalize V.run K hi h xs 65 (V.start h (ctxF h ks) (dsF fs)) = f' at hG hd'
      obtain ⟨_, _, _, h4⟩ := hG
      exact h4.2 i _ d (dsF_get hf) hd'
  · have e : outOf K hi h (ctxF h ks) xs (dsF fs) = ⟨0, 0, 0, 0, 22, [], dsF fs⟩ := by unfold outOf; rw [if_neg hok]
    rw [e]
    refine ⟨by show (dsF fs).length = _; unfold dsF; rw [List.length_map], fun i d hd => dsF_ok hg d (List.mem_of_getElem? hd), fun _ i f d hf hd => ?_, Nat.zero_le _⟩
    have hd' : (dsF fs)[i]? = some d := hd
    rw [dsF_get hf] at hd'
    injection hd' with hd'
    subst hd'
    exact ⟨rfl, fun _ q => q⟩
section
variable {w wo wx wy : World} {ba1 ba2 bb2 base2 N : Nat} {v1 v2 u2 : Value} {bs1 bs2 cs2 : List Nat} {S1 S2 S' U2 : Nat → Prop} {o : VOut} {ctx : List Int} {O O2 : Option Addr} {k c k2 c2 G G2 : Nat} {df : List Dt} {X : Nat} {x0 : Value} {xr : List Value}
/-- behind the first run -/
structure MidA (w : World) (ba1 ba2 bb2 base2 : Nat) (v1 v2 u2 : Value) (bs1 bs2 cs2 : List Nat) (S' U2 : Nat → Prop) (o : VOut) (O : Option Addr) (k c G : Nat) (df : List Dt) (X : Nat) (x0 : Value) (xr : List Value) (W : World) : Prop where
  a : StAt sP ba1 v1 bs1 S' o.ds W
  p : PrAt base2 ba2 bb2 v2 u2 bs2 cs2 U2 df df W
  o1 : NumsAt W O k o.out
  g1 : RowAt W G (outL o O k c)
  x : RowAt W X (x0 :: xr)
  bel : Below w.heap.size w W
  offS : ∀ y, S' y → ¬ U2 y
  offG : ¬ U2 G
  offO : ∀ b off, O = some ⟨b, off, none⟩ → ¬ U2 b
  offX : ¬ U2 X
  low : ∀ y, U2 y → w.heap.size ≤ y
theorem mid_of (hr : RnR wo ba1 v1 bs1 S1 o N ctx (.s3 O k c S' G) wx) (hp : PrAt base2 ba2 bb2 v2 u2 bs2 cs2 U2 df df wo) (hx : RowAt wo X (x0 :: xr)) (hb : Below w.heap.size w wo) (hS : ∀ y, S1 y → ¬ U2 y) (hl : ∀ y, S1 y → w.heap.size ≤ y) (hX1 : ¬ S1 X) (hX2 : ¬ U2 X) (hlow : w.heap.size ≤ base2) :
    MidA w ba1 ba2 bb2 base2 v1 v2 u2 bs1 bs2 cs2 S' U2 o O k c G df X x0 xr wx := by
  have hr0 := hr
  obtain ⟨h1, h2, h3, h4⟩ := hr
  refine ⟨h1.st, hp.keep h1.but (fun y hy hu => hS y hy hu), h1.out, h2, RnR.row hr0 hx hX1, hb.trans (h1.but.below hb.size hl), fun y hy hu => ?_, fun hu => ?_, fun b off e hu => ?_, hX2, fun y hu => Nat.le_trans hlow (hp.lt hu).1⟩
  · rcases h1.new y hy with q | q
    · exact hS y q hu
    · have := (hp.lt hu).2; omega
  · have := (hp.lt hu).2; omega
  · have := (hp.lt hu).2
    have := (h1.far b off e).1
    omega
/-- behind the second: a class of worlds, and what holds in it -/
theorem class_of (hm : MidA w ba1 ba2 bb2 base2 v1 v2 u2 bs1 bs2 cs2 S' U2 o O k c G df X x0 xr wx) {T2 : Nat → Prop} (hS2 : ∀ y, S2 y → U2 y) (hT : StAt sR bb2 u2 cs2 T2 df wx) (hST : ∀ y, S2 y → ¬ T2 y) (hr : RnR wx ba2 v2 bs2 S2 o N ctx (.s3 O2 k2 c2 S1 G2) wy) :
    ∃ (C : World → Prop) (rs : List Mp), C wy ∧ (∀ W W', C W → Below W.heap.size W W' → C W') ∧ (∀ W, C W → StAt sP ba1 v1 bs1 S' o.ds W) ∧ (∀ W, C W → StAt sP ba2 v2 bs2 S1 o.ds W) ∧ (∀ W, C W → StM sR bb2 u2 cs2 rs df W) ∧ (∀ W, C W → NumsAt W O k o.out) ∧ (∀ W, C W → NumsAt W O2 k2 o.out) ∧
      (∀ W, C W → RowAt W G (outL o O k c)) ∧ (∀ W, C W → RowAt W G2 (outL o O2 k2 c2)) ∧ (∀ W, C W → RowAt W X (x0 :: xr)) ∧ ∀ W, C W → Below w.heap.size w W := by
  have hr0 := hr
  obtain ⟨h1, h2, h3, h4⟩ := hr
  obtain ⟨rs, g1, g2, g3⟩ := hT.keep h1.but hST
  refine ⟨fun W => StAt sP ba1 v1 bs1 S' o.ds W ∧ StAt sP ba2 v2 bs2 S1 o.ds W ∧ StM sR bb2 u2 cs2 rs df W ∧ NumsAt W O k o.out ∧ NumsAt W O2 k2 o.out ∧ RowAt W G (outL o O k c) ∧ RowAt W G2 (outL o O2 k2 c2) ∧ RowAt W X (x0 :: xr) ∧ Below w.heap.size w W, rs, ?_, ?_, fun _ h => h.1, fun _ h => h.2.1, fun _ h => h.2.2.1, fun _ h => h.2.2.2.1, fun _ h => h.2.2.2.2.1, fun _ h => h.2.2.2.2.2.1, fun _ h => h.2.2.2.2.2.2.1, fun _ h => h.2.2.2.2.2.2.2.1, fun _ h => h.2.2.2.2.2.2.2.2⟩
  · refine ⟨hm.a.keep h1.but (fun y hy hs => hm.offS y hs (hS2 y hy)), h1.st, g1, hm.o1.but h1.but (fun b off e hs => hm.offO b off e (hS2 b hs)), h1.out, RowAt.but (v := .int .i64 o.how) (vs := [.int .i64 o.why, .int .i64 o.verdict, .int .i64 o.steps, .slice O k c]) hm.g1 h1.but (fun hs => hm.offG (hS2 G hs)), h2, RnR.row hr0 hm.x (fun hs => hm.offX (hS2 X hs)), hm.bel.trans (h1.but.below hm.bel.size (fun y hy => hm.low y (hS2 y hy)))⟩
  · rintro W W' ⟨a1, a2, a3, a4, a5, a6, a7, a8, a9⟩ hb
    exact ⟨a1.step hb, a2.step hb, a3.keep (T := fun _ => False) (But.of_below hb) (fun _ hf => hf.elim), a4.step hb, a5.step hb, RowAt.step (v := .int .i64 o.how) (vs := [.int .i64 o.why, .int .i64 o.verdict, .int .i64 o.steps, .slice O k c]) a6 hb, RowAt.step (v := .int .i64 o.how) (vs := [.int .i64 o.why, .int .i64 o.verdict, .int .i64 o.steps, .slice O2 k2 c2]) a7 hb, a8.step hb, a9.trans (hb.mono a9.size)⟩
end
/-! ### '_, there := m.Get(key)' -/
inductive GK
  | a (g : Option Nat)
  | b
def GkR (W0 : World) : GK → World → Prop
  | .a g, W => Below W0.heap.size W0 W ∧ ∀ b, g = some b → RowAt W b [.int .i64 0, .int .i64 0, .int .i64 0, .int .i64 0] ∧ W0.heap.size ≤ b
  | .b, W => Below W0.heap.size W0 W
theorem gk_bel {W0 W : World} {s : GK} (h : GkR W0 s W) : Below W0.heap.size W0 W := by
  cases s with
  | a g => exact h.1
  | b => exact h
theorem gk_call {W0 W W' : World} {s : GK} (h : GkR W0 s W) (hb : Below W.heap.size W W') : GkR W0 s W' := by
  cases s with
  | a g => exact ⟨h.1.trans (hb.mono h.1.size), fun b e => ⟨RowAt.step (v := .int .i64 0) (vs := [.int .i64 0, .int .i64 0, .int .i64 0]) (h.2 b e).1 hb, (h.2 b e).2⟩⟩
  | b => exact Below.trans h (hb.mono (Below.size h))
theorem gk_alloc {W0 W : World} {a : Act} {op : Oper} (h : GkR W0 (.a none) W) (hop : (execOp a.eval op).run Try.prog W = .ok (.value (.pointer (some ⟨W.heap.size, 0, none⟩))) (W.alloc (.cells #[.int .i64 0, .int .i64 0, .int .i64 0, .int .i64 0] 60))) :
    Gives Try.prog (execOp a.eval op) W fun u w' => ∃ s', (∃ b, u = .pointer (some ⟨b, 0, none⟩) ∧ s' = GK.a (some b)) ∧ GkR W0 s' w' := by
  have hb : Below W.heap.size W (W.alloc (.cells #[.int .i64 0, .int .i64 0, .int .i64 0, .int .i64 0] 60)) := (Below.refl _ _).alloc (Nat.le_refl _) _
  refine gives_to hop ⟨_, ⟨_, rfl, rfl⟩, h.1.trans (hb.mono h.1.size), fun b e => ?_⟩
  injection e with e; subst e
  exact ⟨rowAt_new W [.int .i64 0, .int .i64 0, .int .i64 0, .int .i64 0] 60, h.1.size⟩
theorem gk_store {W0 W : World} {a : Act} {op : Oper} {b : Nat} {e : Z.En} (h : GkR W0 (.a (some b)) W) (x y : Operand) (ho : op.op = .store 60 x y) (hx : a.eval x = .pointer (some ⟨b, 0, none⟩)) (hy : a.eval y = .agg (wordsL e).toArray) :
    Gives Try.prog (execOp a.eval op) W fun u w' => ∃ s', (u = undef ∧ s' = GK.b) ∧ GkR W0 s' w' := by
  obtain ⟨hr, hg⟩ := h.2 b rfl
  have hrun : (execOp a.eval op).run Try.prog W = .ok .skip (W.setCells b 0 (wordsL e)) := by
    have := run_storeAt_mid (P := Try.prog) W b 0 60 (wordsL e).toArray (by simpa [wordsL] using hr.free) (by rw [valT.info]; rfl) (all_oneCell_toArray (by
      intro v hv
      simp only [wordsL, List.mem_cons, List.not_mem_nil, or_false] at hv
      rcases hv with rfl | rfl | rfl | rfl <;> rfl))
    unfold execOp
    simp only [ho, hx, hy, Sem.run_bind, this, Result.andThen_ok, Sem.run_pure]
  exact gives_skip hrun ⟨_, ⟨rfl, rfl⟩, h.1.trans ((But.setCells b (wordsL e) 0 W).below h.1.size (fun y e' => by rw [e']; exact hg))⟩
end Go.Proofs.Ythngbakbiocadaa

/-
  The document's comparison of numbers.
-/
namespace Go.Proofs.Ythngbakbiocadaa
set_option maxRecDepth 100000
open Go.ChangeShapes Go.WideShapes Go.ChangeAt Go.RowKit Go.Maps

/-! ### Same -/
def SameN (w0 : World) (A B : Option Addr) (n : Nat) (xs ys : List Int) (W : World) : Prop := NumsAt W A n xs ∧ NumsAt W B n ys ∧ Below w0.heap.size w0 W
theorem SameN.call {w0 : World} {A B : Option Addr} {n : Nat} {xs ys : List Int} {W W' : World} (k : SameN w0 A B n xs ys W) (hb : Below W.heap.size W W') : SameN w0 A B n xs ys W' := ⟨k.1.step hb, k.2.1.step hb, k.2.2.trans (hb.mono k.2.2.size)⟩
theorem take_sameN (xs ys : List Int) (k : Nat) (x y : Int) (hx : xs[k]? = some x) (hy : ys[k]? = some y) (h : xs.take k = ys.take k) (e : x = y) : xs.take (k + 1) = ys.take (k + 1) := by
  obtain ⟨hk, he⟩ := List.getElem?_eq_some_iff.1 hx
  obtain ⟨hk2, he2⟩ := List.getElem?_eq_some_iff.1 hy
  rw [List.take_succ_eq_append_getElem hk, List.take_succ_eq_append_getElem hk2, he, he2, h, e]
theorem same_noN (xs ys : List Int) (k : Nat) (x y : Int) (hx : xs[k]? = some x) (hy : ys[k]? = some y) (e : x ≠ y) : xs ≠ ys := fun h => by
  rw [h, hy] at hx
  injection hx with hx
  exact e hx.symm
set_option maxRecDepth 100000 in
set_option maxHeartbeats 2000000 in
theorem rsame7_any (A B : Option Addr) (n m c d : Nat) (xs ys : List Int) (w : World) (h : NumsAt w A n xs) (g : NumsAt w B m ys) (hn : n ≤ 1000) (hm : m ≤ 1000) :
    Calls Try.prog 14 #[.slice A n c, .slice B m d] w fun e w' => e = .returned (.bool (decide (xs = ys))) ∧ Below w.heap.size w w' := by
  by_cases hnm : n = m
  · subst hnm
    have S0 : Hid (SameN w A B n xs ys w) := Lib.hid ⟨h, g, Below.refl _ _⟩
    have HL := Lib.hid h.len
    have HG := Lib.hid g.len
    clear h g hm
    go_enter Try.func14, Try.ntmps14
    go_wp2
    go_loopw [5] (fun i wr => ∃ k : Nat, k ≤ n ∧ i = .int .i64 (k : Int) ∧ Hid (xs.take k = ys.take k) ∧ Hid (SameN w A B n xs ys wr)) (fun i _ => n - (intOf i).toNat)
    case atStart => exact ⟨0, Nat.zero_le _, rfl, Lib.hid rfl, S0⟩
    case round =>
      clear S0
      obtain ⟨k, hk, rfl, HT, S⟩ := hrel
      by_cases hlt : k < n
      · obtain ⟨b, off, x, hA, hb, hx, hc⟩ := S.out.1.get k hlt
        obtain ⟨b2, off2, y, hB, hb2, hy, hc2⟩ := S.out.2.1.get k hlt
        subst hA hB
        have HX := Lib.hid hx
        have HY := Lib.hid hy
        clear hx hy hc hc2 hb hb2
        have HC1 : Hid (∀ w', SameN w (some ⟨b, off, none⟩) (some ⟨b2, off2, none⟩) n xs ys w' → w'.cell? ⟨b, off + k, none⟩ = some (.int .i64 x)) := Lib.hid (fun w' hS => by
          obtain ⟨b', o', x', e1, _, e3, e4⟩ := hS.1.get k hlt
          injection e1 with e1; injection e1 with e1 e2
          rw [HX.out] at e3; injection e3 with e3
          subst e1 e2 e3
          exact e4)
        have HC2 : Hid (∀ w', SameN w (some ⟨b, off, none⟩) (some ⟨b2, off2, none⟩) n xs ys w' → w'.cell? ⟨b2, off2 + k, none⟩ = some (.int .i64 y)) := Lib.hid (fun w' hS => by
          obtain ⟨b', o', x', e1, _, e3, e4⟩ := hS.2.1.get k hlt
          injection e1 with e1; injection e1 with e1 e2
          rw [HY.out] at e3; injection e3 with e3
          subst e1 e2 e3
          exact e4)
        have hk0 : (0 : Int) ≤ (k : Int) := by omega
        have hk1 : (k : Int) < (n : Int) := by omega
        obtain ⟨q, hq⟩ : ∃ q, q = decide (x = y) := ⟨_, rfl⟩
        have HQ := Lib.hid hq
        clear hq
        go_upto_region 6 with fail
        refine wq_region (C := SameN w (some ⟨b, off, none⟩) (some ⟨b2, off2, none⟩) n xs ys) (by kernel_rfl) (S.out.call (Below.refl _ _).drew) ?_
        refine wq_take (.slice (some ⟨b, off, none⟩) n c) (by kernel_rfl) ?_ ?_
        · (intro w' hS; go_simp)
        (try simp only [Act.put, List.setIfInBounds_toArray, List.set_cons_zero, List.set_cons_succ])
        refine wq_take (.int .i64 (k : Int)) (by kernel_rfl) ?_ ?_
        · (intro w' hS; go_simp)
        (try simp only [Act.put, List.setIfInBounds_toArray, List.set_cons_zero, List.set_cons_succ])
        refine wq_take (.pointer (some ⟨b, off + k, none⟩)) (by kernel_rfl) ?_ ?_
        · (intro w' hS; go_simp)
        (try simp only [Act.put, List.setIfInBounds_toArray, List.set_cons_zero, List.set_cons_succ])
        refine wq_take (.int .i64 x) (by kernel_rfl) ?_ ?_
        · (intro w' hS; have hcc := HC1.out w' hS; go_simp)
        (try simp only [Act.put, List.setIfInBounds_toArray, List.set_cons_zero, List.set_cons_succ])
        refine wq_take (.slice (some ⟨b2, off2, none⟩) n d) (by kernel_rfl) ?_ ?_
        · (intro w' hS; go_simp)
        (try simp only [Act.put, List.setIfInBounds_toArray, List.set_cons_zero, List.set_cons_succ])
        refine wq_take (.int .i64 (k : Int)) (by kernel_rfl) ?_ ?_
        · (intro w' hS; go_simp)
        (try simp only [Act.put, List.setIfInBounds_toArray, List.set_cons_zero, List.set_cons_succ])
        refine wq_take (.pointer (some ⟨b2, off2 + k, none⟩)) (by kernel_rfl) ?_ ?_
        · (intro w' hS; go_simp)
        (try simp only [Act.put, List.setIfInBounds_toArray, List.set_cons_zero, List.set_cons_succ])
        refine wq_take (.int .i64 y) (by kernel_rfl) ?_ ?_
        · (intro w' hS; have hcc := HC2.out w' hS; go_simp)
        (try simp only [Act.put, List.setIfInBounds_toArray, List.set_cons_zero, List.set_cons_succ])
        refine wq_take (.bool (!q)) (by kernel_rfl) ?_ ?_
        · (intro w' hS; rw [HQ.out]; go_simp; by_cases hxy : x = y <;> simp [hxy])
        (try simp only [Act.put, List.setIfInBounds_toArray, List.set_cons_zero, List.set_cons_succ])
        refine wq_nil ?_
        clear S
        intro w2 S2
        have S := Lib.hid S2
        clear S2
        cases q with
        | true =>
          have HN := Lib.hid (take_sameN xs ys k x y HX.out HY.out HT.out (of_decide_eq_true HQ.out.symm))
          go_wp2
          go_roundw
          case rel => exact ⟨k + 1, by omega, by go_num, HN, S⟩
          case measure => (simp [intOf] <;> omega)
        | false =>
          have HN := Lib.hid (same_noN xs ys k x y HX.out HY.out (of_decide_eq_false HQ.out.symm))
          go_wp2
          go_ret
          exact ⟨ret_bool (decide_eq_false HN.out).symm, S.out.2.2⟩
      · obtain rfl : k = n := by omega
        have HN : Hid (xs = ys) := Lib.hid (by
          have := HT.out
          rwa [List.take_of_length_le (by rw [HL.out]; exact Nat.le_refl _), List.take_of_length_le (by rw [HG.out]; exact Nat.le_refl _)] at this)
        clear HT hlt
        go_wp2
        go_ret
        exact ⟨ret_bool (decide_eq_true HN.out).symm, S.out.2.2⟩
  · have HN : Hid (xs ≠ ys) := Lib.hid (fun e => hnm (by rw [← h.len, ← g.len, e]))
    clear h g
    have hd : ((n : Int) != (m : Int)) = true := by simp; omega
    have hd2 : ¬ ((n : Int) = (m : Int)) := by omega
    clear hnm
    go_enter Try.func14, Try.ntmps14
    go_wp2
    go_ret
    exact ⟨ret_bool (decide_eq_false HN.out).symm, Below.refl _ _⟩
end Go.Proofs.Ythngbakbiocadaa
