/-
  The contract of vm.Run, as the statements' walks want it; the region that runs a handler and keeps its outcome in a variable.
-/
import Derived.Test.YthngbakbiocadaaMj
import Derived.Test.YthngbakbiocadaaMc
import Derived.Test.YthngbakbiocadaaMi

namespace Go.Proofs.Ythngbakbiocadaa
set_option maxRecDepth 100000
open Go.ChangeShapes Go.WideShapes Go.ChangeAt Go.RowKit Go.Maps

structure VOut where
  how : Int
  why : Int
  verdict : Int
  steps : Int
  err : Int
  out : List Int
  ds : List Dt
def okRun (h : Int) (ctx : List Int) (xs : List Y.In) : Bool := Hk.knownF h && decide ((ctx.length : Int) = Hk.inF h) && Y.all xs
def outOf (K : V.Calc) (hi : Int → Bool) (h : Int) (ctx : List Int) (xs : List Y.In) (ds : List Dt) : VOut :=
  if okRun h ctx xs = true then
    ⟨(V.run K hi h xs 65 (V.start h ctx ds)).how, (V.run K hi h xs 65 (V.start h ctx ds)).why, (V.run K hi h xs 65 (V.start h ctx ds)).verdict, (V.run K hi h xs 65 (V.start h ctx ds)).s.steps, 0, (V.run K hi h xs 65 (V.start h ctx ds)).s.ctx.drop ctx.length, (V.run K hi h xs 65 (V.start h ctx ds)).s.ds⟩
  else ⟨0, 0, 0, 0, 22, [], ds⟩
def outL (o : VOut) (O : Option Addr) (k c : Nat) : List Value := [.int .i64 o.how, .int .i64 o.why, .int .i64 o.verdict, .int .i64 o.steps, .slice O k c]
theorem outL_one (o : VOut) (O : Option Addr) (k c : Nat) : ∀ v ∈ outL o O k c, v.oneCell' = true := by
  intro v hv
  simp only [outL, List.mem_cons, List.not_mem_nil, or_false] at hv
  rcases hv with rfl | rfl | rfl | rfl | rfl <;> rfl
theorem outT : RowT 39 5 := ⟨⟨_, Try.underlying39, rfl⟩, by kernel_rfl⟩
/-- what Run does -/
def RunGive (o : VOut) (ba : Nat) (v : Value) (bs : List Nat) (S : Nat → Prop) (W : World) (e : Ending) (w' : World) : Prop :=
  (∃ O k c, e = .returned (.tuple #[.agg (outL o O k c).toArray, .int .i64 o.err]) ∧ NumsAt w' O k o.out ∧ ∀ b off, O = some ⟨b, off, none⟩ → W.heap.size ≤ b ∧ b < w'.heap.size) ∧ StTo sP ba v bs S W o.ds w'
def RunC (K : V.Calc) (hi : Int → Bool) : Prop := ∀ (h : Int) (A : Option Addr) (n c : Nat) (ctx : List Int) (B : Option Addr) (m d : Nat) (xs : List Y.In) (ba : Nat) (v : Value) (bs : List Nat) (S : Nat → Prop) (ds : List Dt) (w W : World),
  Yq.InsAt w B m xs → Below w.heap.size w W → w.heap.size ≤ ba → NumsAt W A n ctx → (∀ b off, A = some ⟨b, off, none⟩ → ¬ S b) → StAt sP ba v bs S ds W → ba ≤ W.heap.size → (∀ d ∈ ds, d.ok) → ds.length ≤ 4 → m ≤ 1000 → n ≤ 1000 →
  Calls Try.prog 10 #[.int .i64 h, v, .slice A n c, .slice B m d] W (RunGive (outOf K hi h ctx xs ds) ba v bs S W)
inductive RunK
  | s0 (G : Option Nat)
  | s1 (g : Nat) (G : Option Nat)
  | s2 (O : Option Addr) (k c : Nat) (S' : Nat → Prop) (G : Option Nat)
  | s3 (O : Option Addr) (k c : Nat) (S' : Nat → Prop) (G : Nat)
def zeroO : List Value := [.int .i64 0, .int .i64 0, .int .i64 0, .int .i64 0, .slice none 0 0]
def Gz (W0 : World) (G : Option Nat) (W : World) : Prop := ∀ b, G = some b → RowAt W b zeroO ∧ W0.heap.size ≤ b
/-- the world behind the run -/
structure Ran (W0 : World) (ba : Nat) (v : Value) (bs : List Nat) (S : Nat → Prop) (o : VOut) (O : Option Addr) (k : Nat) (S' : Nat → Prop) (W : World) : Prop where
  st : StAt sP ba v bs S' o.ds W
  but : But S W0 W
  new : ∀ x, S' x → S x ∨ W0.heap.size ≤ x
  out : NumsAt W O k o.out
  far : ∀ b off, O = some ⟨b, off, none⟩ → W0.heap.size ≤ b ∧ b < W.heap.size
def RnR (W0 : World) (ba : Nat) (v : Value) (bs : List Nat) (S : Nat → Prop) (o : VOut) (N : Nat) (ctx : List Int) : RunK → World → Prop
  | .s0 G, W => Below W0.heap.size W0 W ∧ Gz W0 G W
  | .s1 g G, W => Below W0.heap.size W0 W ∧ NumsAt W (some ⟨g, 0, none⟩) N ctx ∧ W0.heap.size ≤ g ∧ Gz W0 G W
  | .s2 O k c S' G, W => Ran W0 ba v bs S o O k S' W ∧ Gz W0 G W ∧ ∀ b, G = some b → ¬ S' b ∧ ∀ b' off, O = some ⟨b', off, none⟩ → b' ≠ b
  | .s3 O k c S' G, W => Ran W0 ba v bs S o O k S' W ∧ RowAt W G (outL o O k c) ∧ W0.heap.size ≤ G ∧ ¬ S' G
section
variable {W0 : World} {ba : Nat} {v : Value} {bs : List Nat} {S : Nat → Prop} {o : VOut} {N : Nat} {ctx : List Int}
theorem Gz.step {G : Option Nat} {W W' : World} (h : Gz W0 G W) (hb : Below W.heap.size W W') : Gz W0 G W' := fun b e => ⟨RowAt.step (v := .int .i64 0) (vs := [.int .i64 0, .int .i64 0, .int .i64 0, .slice none 0 0]) (h b e).1 hb, (h b e).2⟩
theorem Gz.none {W : World} : Gz W0 none W := fun b e => by cases e
theorem Gz.new {W : World} {t : TypeId} (hz : W0.heap.size ≤ W.heap.size) : Gz W0 (some W.heap.size) (W.alloc (.cells zeroO.toArray t)) := fun b e => by
  injection e with e; subst e
  exact ⟨rowAt_new W zeroO t, hz⟩
theorem Ran.step {O : Option Addr} {k : Nat} {S' : Nat → Prop} {W W' : World} (h : Ran W0 ba v bs S o O k S' W) (hb : Below W.heap.size W W') : Ran W0 ba v bs S o O k S' W' :=
  ⟨h.st.step hb, h.but.trans (But.of_below (S := fun _ => False) hb) (fun x hx => hx.elim), h.new, h.out.step hb, fun b off e => ⟨(h.far b off e).1, Nat.lt_of_lt_of_le (h.far b off e).2 hb.size⟩⟩
theorem RnR.but {s : RunK} {W : World} (h : RnR W0 ba v bs S o N ctx s W) : But S W0 W := by
  cases s with
  | s0 G => exact But.of_below h.1
  | s1 g G => exact But.of_below h.1
  | s2 O k c S' G => exact h.1.but
  | s3 O k c S' G => exact h.1.but
/-- a row that was there -/
theorem RnR.row {s : RunK} {W : World} (h : RnR W0 ba v bs S o N ctx s W) {X : Nat} {u : Value} {us : List Value} (hr : RowAt W0 X (u :: us)) (hX : ¬ S X) : RowAt W X (u :: us) := hr.but h.but hX
theorem rn_alloc0 {a : Act} {op : Oper} {W : World} (h : RnR W0 ba v bs S o N ctx (.s0 none) W) (hop : (execOp a.eval op).run Try.prog W = .ok (.value (.pointer (some ⟨W.heap.size, 0, none⟩))) (W.alloc (.cells zeroO.toArray 39))) :
    Gives Try.prog (execOp a.eval op) W fun u w' => ∃ s', (∃ G, u = .pointer (some ⟨G, 0, none⟩) ∧ s' = RunK.s0 (some G)) ∧ RnR W0 ba v bs S o N ctx s' w' := by
  have hb : Below W.heap.size W (W.alloc (.cells zeroO.toArray 39)) := (Below.refl _ _).alloc (Nat.le_refl _) _
  exact gives_to hop ⟨_, ⟨_, rfl, rfl⟩, h.1.trans (hb.mono h.1.size), Gz.new h.1.size⟩
theorem rn_alloc1 {a : Act} {op : Oper} {W : World} {g : Nat} (h : RnR W0 ba v bs S o N ctx (.s1 g none) W) (hop : (execOp a.eval op).run Try.prog W = .ok (.value (.pointer (some ⟨W.heap.size, 0, none⟩))) (W.alloc (.cells zeroO.toArray 39))) :
    Gives Try.prog (execOp a.eval op) W fun u w' => ∃ s', (∃ G, u = .pointer (some ⟨G, 0, none⟩) ∧ s' = RunK.s1 g (some G)) ∧ RnR W0 ba v bs S o N ctx s' w' := by
  have hb : Below W.heap.size W (W.alloc (.cells zeroO.toArray 39)) := (Below.refl _ _).alloc (Nat.le_refl _) _
  exact gives_to hop ⟨_, ⟨_, rfl, rfl⟩, h.1.trans (hb.mono h.1.size), h.2.1.step hb, h.2.2.1, Gz.new h.1.size⟩
theorem rn_alloc2 {a : Act} {op : Oper} {W : World} {O : Option Addr} {k c : Nat} {S' : Nat → Prop} (h : RnR W0 ba v bs S o N ctx (.s2 O k c S' none) W) (hop : (execOp a.eval op).run Try.prog W = .ok (.value (.pointer (some ⟨W.heap.size, 0, none⟩))) (W.alloc (.cells zeroO.toArray 39))) :
    Gives Try.prog (execOp a.eval op) W fun u w' => ∃ s', (∃ G, u = .pointer (some ⟨G, 0, none⟩) ∧ s' = RunK.s2 O k c S' (some G)) ∧ RnR W0 ba v bs S o N ctx s' w' := by
  have hb : Below W.heap.size W (W.alloc (.cells zeroO.toArray 39)) := (Below.refl _ _).alloc (Nat.le_refl _) _
  refine gives_to hop ⟨_, ⟨_, rfl, rfl⟩, h.1.step hb, Gz.new h.1.but.size, fun b e => ?_⟩
  injection e with e; subst e
  exact ⟨fun hs => by have := h.1.st.lt hs; omega, fun b' off e => by have := (h.1.far b' off e).2; omega⟩
theorem rn_ctx {a : Act} {op : Oper} {W : World} {G : Option Nat} {hk : Int} {A : Option Addr} {n c : Nat} {ks : List Int} (hN : N = (Hk.inF hk).toNat) (hctx : ctx = ctxF hk ks) (hks : NumsAt W0 A n ks) (hn : n ≤ 1000) (h : RnR W0 ba v bs S o N ctx (.s0 G) W) (hop : (execOp a.eval op).run Try.prog W = .ok (.enter 11 #[.int .i64 hk, .slice A n c]) W) :
    Gives Try.prog (execOp a.eval op) W fun u w' => ∃ s', (∃ g, u = .slice (some ⟨g, 0, none⟩) N N ∧ s' = RunK.s1 g G) ∧ RnR W0 ba v bs S o N ctx s' w' := by
  subst hN hctx
  refine gives_call hop ((ctx_any hk A n c ks W (hks.step h.1) hn).mono fun e w' ⟨g, he, hg, hnum, hb⟩ => ⟨_, he, .s1 g G, ⟨g, rfl, rfl⟩, h.1.trans (hb.mono h.1.size), hnum, Nat.le_trans h.1.size hg, h.2.step hb⟩)
theorem rn_run {K : V.Calc} {hi : Int → Bool} (HR : RunC K hi) {a : Act} {op : Oper} {w W : World} {g : Nat} {G : Option Nat} {hk : Int} {B : Option Addr} {m d : Nat} {xs : List Y.In} {ds : List Dt}
    (hins : Yq.InsAt w B m xs) (hbw : Below w.heap.size w W0) (hba : w.heap.size ≤ ba) (hst : StAt sP ba v bs S ds W0) (hba2 : ba ≤ W0.heap.size) (hok : ∀ d ∈ ds, d.ok) (hd4 : ds.length ≤ 4) (hm : m ≤ 1000) (hN : N ≤ 1000) (ho : o = outOf K hi hk ctx xs ds)
    (h : RnR W0 ba v bs S o N ctx (.s1 g G) W) (hop : (execOp a.eval op).run Try.prog W = .ok (.enter 10 #[.int .i64 hk, v, .slice (some ⟨g, 0, none⟩) N N, .slice B m d]) W) :
    Gives Try.prog (execOp a.eval op) W fun u w' => ∃ s', (∃ O k c S', u = .tuple #[.agg (outL o O k c).toArray, .int .i64 o.err] ∧ s' = RunK.s2 O k c S' G) ∧ RnR W0 ba v bs S o N ctx s' w' := by
  subst ho
  obtain ⟨h1, h2, h3, h4⟩ := h
  refine gives_call hop ((HR hk (some ⟨g, 0, none⟩) N N ctx B m d xs ba v bs S ds w W hins (hbw.trans (h1.mono hbw.size)) hba h2 (fun b off e hs => by
    injection e with e; injection e with e _
    subst e
    have := hst.lt hs
    omega) (hst.step h1) (Nat.le_trans hba2 h1.size) hok hd4 hm hN).mono fun e w' ⟨⟨O, k, c, he, hout, hfar⟩, S', g1, g2, g3⟩ => ⟨_, he, .s2 O k c S' G, ⟨O, k, c, S', rfl, rfl⟩, ⟨g1, (But.of_below (S := S) h1).trans g2 (fun x hx => Or.inl hx), fun x hx => ?_, hout, fun b off e => ⟨Nat.le_trans h1.size (hfar b off e).1, (hfar b off e).2⟩⟩, fun b e => ?_, fun b e => ⟨fun hs => ?_, fun b' off e' => ?_⟩⟩)
  · rcases g3 x hx with q | q
    · exact Or.inl q
    · exact Or.inr (Nat.le_trans h1.size q)
  · refine ⟨RowAt.but (v := .int .i64 0) (vs := [.int .i64 0, .int .i64 0, .int .i64 0, .slice none 0 0]) (h4 b e).1 g2 (fun hs => ?_), (h4 b e).2⟩
    have := hst.lt hs
    have := (h4 b e).2
    omega
  · have hlt : b < W.heap.size := RowAt.lt (v := .int .i64 0) (vs := [.int .i64 0, .int .i64 0, .int .i64 0, .slice none 0 0]) (h4 b e).1
    rcases g3 b hs with q | q
    · have := hst.lt q
      have := (h4 b e).2
      omega
    · omega
  · have hlt : b < W.heap.size := RowAt.lt (v := .int .i64 0) (vs := [.int .i64 0, .int .i64 0, .int .i64 0, .slice none 0 0]) (h4 b e).1
    have := (hfar b' off e').1
    omega
theorem rn_store {a : Act} {op : Oper} {W : World} {O : Option Addr} {k c : Nat} {S' : Nat → Prop} {G : Nat} (h : RnR W0 ba v bs S o N ctx (.s2 O k c S' (some G)) W) (x y : Operand) (ho : op.op = .store 39 x y) (hx : a.eval x = .pointer (some ⟨G, 0, none⟩)) (hy : a.eval y = .agg (outL o O k c).toArray) :
    Gives Try.prog (execOp a.eval op) W fun u w' => ∃ s', (u = undef ∧ s' = RunK.s3 O k c S' G) ∧ RnR W0 ba v bs S o N ctx s' w' := by
  obtain ⟨h1, h2, h3⟩ := h
  obtain ⟨hr, hg⟩ := h2 G rfl
  obtain ⟨hn, hf⟩ := h3 G rfl
  have hrun : (execOp a.eval op).run Try.prog W = .ok .skip (W.setCells G 0 (outL o O k c)) := by
    obtain ⟨d, hd, hrow⟩ := outT.row
    have := run_storeAt_mid (P := Try.prog) W G 0 39 (outL o O k c).toArray (by simpa [outL, zeroO] using hr.free) (by rw [outT.info]; rfl) (all_oneCell_toArray (outL_one o O k c))
    unfold execOp
    simp only [ho, hx, hy, Sem.run_bind, this, Result.andThen_ok, Sem.run_pure]
  have hb := But.setCells G (outL o O k c) 0 W
  refine gives_skip hrun ⟨_, ⟨rfl, rfl⟩, ⟨h1.st.keep hb (fun x e hs => hn (by rw [← e]; exact hs)), h1.but.trans hb (fun x e => Or.inr (by rw [e]; exact hg)), h1.new, ?_, fun b off e => ⟨(h1.far b off e).1, Nat.lt_of_lt_of_le (h1.far b off e).2 hb.size⟩⟩, hr.put _ rfl, hg, hn⟩
  refine ⟨h1.out.len, ⟨fun h0 => ?_⟩⟩
  obtain ⟨b, off, e, hlt, hc⟩ := h1.out.rows.cells h0
  refine ⟨b, off, e, Nat.lt_of_lt_of_le hlt hb.size, fun i r hir j u hu => ?_⟩
  have hne := hf b off e
  rw [World.cell?_setCells_out G _ 0 W _ (fun e1 _ => absurd e1 hne)]
  exact hc i r hir j u hu
end
end Go.Proofs.Ythngbakbiocadaa

/-
  What the statements ask of a run's outcome.
-/
namespace Go.Proofs.Ythngbakbiocadaa
set_option maxRecDepth 100000
open Go.ChangeShapes Go.WideShapes Go.ChangeAt Go.RowKit Go.Maps

theorem outF_range (h : Int) : 0 ≤ Hk.outF h ∧ Hk.outF h ≤ 6 := by unfold Hk.outF; repeat (first | (split; omega) | split | omega)
theorem ctxF_len (h : Int) (ks : List Int) : ((ctxF h ks).length : Int) = Hk.inF h := by
  have := inF_range h
  unfold ctxF
  rw [List.length_append, List.length_take, List.length_replicate]
  omega
theorem start_beside (h : Int) (ctx : List Int) (ds : List Dt) (P : Dt → Dt → Prop) (hP : ∀ d ∈ ds, P d d) : V.Beside P ds (V.start h ctx ds) := by
  refine ⟨rfl, fun i d0 d h0 hd => ?_⟩
  have hd' : ds[i]? = some d := hd
  rw [h0] at hd'
  injection hd' with e
  subst e
  exact hP d0 (List.mem_of_getElem? h0)
theorem dsF_get {fs : List Fl} {i : Nat} {f : Fl} (h : fs[i]? = some f) : (dsF fs)[i]? = some (dtF f) := by unfold dsF; rw [List.getElem?_map, h]; rfl
theorem puts_kind (es : List Z.En) : ∀ d : Dt, (es.foldl Dt.put d).lru = d.lru ∧ (es.foldl Dt.put d).room = d.room := by
  induction es with
  | nil => intro d; exact ⟨rfl, rfl⟩
  | cons x r ih => intro d; rw [List.foldl_cons]; exact ih (d.put x)
structure EndsF (h : Int) (fs : List Fl) (o : VOut) : Prop where
  err : o.err = 0
  how : (o.how = 1 ∧ o.why = 0) ∨ (o.how = 2 ∧ (1 ≤ o.why ∧ o.why ≤ 13) ∧ o.verdict = 0)
  steps : 0 ≤ o.steps ∧ o.steps ≤ 64
  fuel : o.why = 1 → o.steps = 64
  out : (o.out.length : Int) = Hk.outF h
  len : o.ds.length = fs.length
  fits : ∀ (i : Nat) (f : Fl) (d : Dt), fs[i]? = some f → o.ds[i]? = some d → d.ok ∧ d.room = f.room.toNat
theorem ends_facts (K : V.Calc) (hi : Int → Bool) (h : Int) (ks : List Int) (xs : List Y.In) (fs : List Fl) (hk : Hk.knownF h = true) (hx : Y.all xs = true) (hg : fs.all goodFl = true) : EndsF h fs (outOf K hi h (ctxF h ks) xs (dsF fs)) := by
  have hok : okRun h (ctxF h ks) xs = true := by unfold okRun; rw [hk, hx, decide_eq_true (ctxF_len h ks)]; rfl
  have hl0 : (V.start h (ctxF h ks) (dsF fs)).ctx.length = (ctxF h ks).length + (Hk.outF h).toNat := by
    show (ctxF h ks ++ List.replicate (Hk.outF h).toNat 0).length = _
    rw [List.length_append, List.length_replicate]
  have hG := V.run_ends K hi h xs ((V.beside_keeps V.Fits (dsF fs)).and (V.ctx_keeps ((ctxF h ks).length + (Hk.outF h).toNat))) ((V.fits_keepsD h (dsF fs)).and (V.ctx_keepsD h _)) ⟨fun s a hs => hs, fun s a hs => hs⟩ 65 (V.start h (ctxF h ks) (dsF fs)) (Nat.zero_le _) (by show 65 ≤ 0 + 65; omega)
    ⟨start_beside h _ _ V.Fits (fun d hd => ⟨dsF_ok hg d hd, rfl, rfl⟩), hl0⟩
  unfold outOf
  rw [if_pos hok]
  generalize V.run K hi h xs 65 (V.start h (ctxF h ks) (dsF fs)) = f at hG ⊢
  obtain ⟨h1, h2, h3, ⟨h4, h5⟩, h6⟩ := hG
  refine ⟨rfl, ?_, ⟨?_, ?_⟩, fun e => ?_, ?_, ?_, fun i fl d hf hd => ?_⟩
  · rcases h1 with ⟨a, b⟩ | ⟨a, ⟨b, c⟩, e⟩
    · exact Or.inl ⟨by show (f.how : Int) = 1; omega, by show (f.why : Int) = 0; omega⟩
    · exact Or.inr ⟨by show (f.how : Int) = 2; omega, ⟨by show 1 ≤ (f.why : Int); omega, by show (f.why : Int) ≤ 13; omega⟩, e⟩
  · show 0 ≤ (f.s.steps : Int); omega
  · show (f.s.steps : Int) ≤ 64; omega
  · have e' : (f.why : Int) = 1 := e
    have := h3 (by omega)
    show (f.s.steps : Int) = 64
    omega
  · show ((f.s.ctx.drop (ctxF h ks).length).length : Int) = _
    have := outF_range h
    rw [List.length_drop, h6]
    omega
  · show f.s.ds.length = _
    rw [h4]; unfold dsF; rw [List.length_map]
  · have hd' : f.s.ds[i]? = some d := hd
    obtain ⟨g1, g2, g3⟩ := h5 i _ d (dsF_get hf) hd'
    exact ⟨g1, by rw [g3]; exact (puts_kind fl.es (dt0 fl)).2⟩
end Go.Proofs.Ythngbakbiocadaa

/-
  As Hlim, with one thing more: what an ordinary operation gives may be said behind the turn that it waits for.
-/
namespace Go.Proofs.Ythngbakbiocadaa.Lv
set_option maxRecDepth 100000
open Go.RowKit

section
variable {P : Program} {ops : Array Oper} {Q : Exit → Act → World → Prop} {md : Region.Mode} {σ : Type} {S : σ → World → Prop} {may : σ → Nat → Bool} {sp : Nat → Bool} {vals : Nat → Value}

/-- one order, step by step -/
inductive LinM (P : Program) (md : Region.Mode) (ops : Array Oper) (Q : Exit → Act → World → Prop) (S : σ → World → Prop) (may : σ → Nat → Bool) (sp : Nat → Bool) : (Nat → Value) → Nat → σ → Array Bool → Act → Prop
  | done {vals : Nat → Value} {n : Nat} {s : σ} {listed : Array Bool} {a : Act} (hr : Region.ready md ops listed = []) (hQ : ∀ w, S s w → Q .normal a w) : LinM P md ops Q S may sp vals n s listed a
  | ord {vals : Nat → Value} {n : Nat} {s : σ} {listed : Array Bool} {a : Act} (i : Nat) (o : Oper) (hi : ops[i]? = some o) (hr : i ∈ Region.ready md ops listed) (hf : FreeAt md ops listed i o) (hsp : sp i = false)
      (hy : OrdM P ops S may i o (vals i) a) (h : LinM P md ops Q S may sp vals n s (listed.setIfInBounds i true) (a.put o.dst (vals i))) : LinM P md ops Q S may sp vals (n + 1) s listed a
  | spec {vals : Nat → Value} {n : Nat} {s : σ} {listed : Array Bool} {a : Act} (i : Nat) (o : Oper) (N : Value → σ → Prop) (hi : ops[i]? = some o) (hr : i ∈ Region.ready md ops listed) (hf : FreeAt md ops listed i o) (hsp : sp i = true)
      (D : Nat → Bool) (hw : WaitsFor md ops sp listed i D) (hm : Lost md ops may s i N)
      (hN : ∃ u s', N u s') (hy : SpecAt P ops S s o a N) (vs : Value → σ → Nat → Value) (hvs : ∀ u s', N u s' → ∀ k, D k = false → vs u s' k = vals k) (h : ∀ u s', N u s' → LinM P md ops Q S may sp (vs u s') n s' (listed.setIfInBounds i true) (a.put o.dst u)) : LinM P md ops Q S may sp vals (n + 1) s listed a
  | fork {vals : Nat → Value} {n : Nat} {s : σ} {listed : Array Bool} {a : Act} (N : Nat → Value → σ → Prop) (hall : ∀ j ∈ Region.ready md ops listed, sp j = true) (hne : Region.ready md ops listed ≠ []) (hm : ∀ j ∈ Region.ready md ops listed, Lost md ops may s j (N j))
      (hy : ∀ j o, j ∈ Region.ready md ops listed → ops[j]? = some o → SpecAt P ops S s o a (N j)) (vs : Nat → Value → σ → Nat → Value) (h : ∀ j o u s', j ∈ Region.ready md ops listed → ops[j]? = some o → N j u s' → LinM P md ops Q S may sp (vs j u s') n s' (listed.setIfInBounds j true) (a.put o.dst u)) : LinM P md ops Q S may sp vals (n + 1) s listed a

variable (hsel : ∀ (j : Nat) (o : Oper) cs b, ops[j]? = some o → o.op ≠ .select cs b)
include hsel

omit hsel in
theorem LinM.agree : ∀ (n : Nat) (vals vals' : Nat → Value) (s : σ) (listed : Array Bool) (a : Act), LinM P md ops Q S may sp vals n s listed a → (∀ k, listed.getD k true = false → vals' k = vals k) → LinM P md ops Q S may sp vals' n s listed a := by
  intro n
  induction n with
  | zero =>
    intro vals vals' s listed a hl _
    cases hl with
    | done hr hQ => exact LinM.done hr hQ
  | succ n ih =>
    intro vals vals' s listed a hl he
    have hun : ∀ i k, (listed.setIfInBounds i true).getD k true = false → listed.getD k true = false := fun i k hk => unlisted_set hk
    cases hl with
    | done hr hQ => exact LinM.done hr hQ
    | ord i o hi hr hf hsp hy h =>
      have e := he i (mem_ready.1 hr).1
      refine LinM.ord i o hi hr hf hsp (by rw [e]; exact hy) ?_
      rw [e]
      exact ih _ _ _ _ _ h (fun k hk => he k (hun i k hk))
    | spec i o N hi hr hf hsp D hw hm hN hy vs hvs h =>
      refine LinM.spec i o N hi hr hf hsp D hw hm hN hy (fun u s' k => if D k = true then vs u s' k else vals' k) (fun u s' _ k hk => by simp only [hk, Bool.false_eq_true, if_false]) (fun u s' hus => ?_)
      refine ih _ _ _ _ _ (h u s' hus) (fun k hk => ?_)
      cases hD : D k with
      | true => simp only [if_true]
      | false =>
        simp only [Bool.false_eq_true, if_false]
        rw [hvs u s' hus k hD]
        exact he k (hun i k hk)
    | fork N hall hne hm hy vs h => exact LinM.fork N hall hne hm hy vs h
theorem LinM.first : ∀ (n : Nat) (vals : Nat → Value) (s : σ) (listed : Array Bool) (a : Act) (j : Nat) (oj : Oper), LinM P md ops Q S may sp vals n s listed a → j ∈ Region.ready md ops listed → ops[j]? = some oj → sp j = false →
    OrdM P ops S may j oj (vals j) a ∧ ∃ m, n = m + 1 ∧ LinM P md ops Q S may sp vals m s (listed.setIfInBounds j true) (a.put oj.dst (vals j)) := by
  intro n
  induction n with
  | zero =>
    intro vals s listed a j oj hl hj _ _
    cases hl with
    | done hr _ => rw [hr] at hj; cases hj
  | succ n ih =>
    intro vals s listed a j oj hl hj hoj hsj
    cases hl with
    | done hr _ => rw [hr] at hj; cases hj
    | ord i o hi hr hf hsp hy h =>
      by_cases hji : j = i
      · subst hji
        rw [hi] at hoj
        injection hoj with hoj
        subst hoj
        exact ⟨hy, n, rfl, h⟩
      · obtain ⟨h1, m, rfl, h2⟩ := ih _ _ _ _ j oj h (ready_mono hj hji) hoj hsj
        obtain ⟨a1, a2, a3⟩ := Oper.apart_spec (hf j oj hoj hji (mem_ready.1 hj).1 (waits_not hr hj hoj))
        refine ⟨h1.unput (fun cs b => hsel j oj cs b hoj) a1, m + 1, rfl, LinM.ord i o hi (ready_mono hr (Ne.symm hji)) hf.set hsp (hy.put (fun cs b => hsel i o cs b hi) a3) ?_⟩
        rw [← Act.put_comm a _ _ a2, Array.setIfInBounds_comm _ _ hji]
        exact h2
    | spec i o N hi hr hf hsp D hw hm hN hy vs hvs h =>
      have hji : j ≠ i := fun e => by rw [e, hsp] at hsj; cases hsj
      have hDj : D j = false := hw.not_ready hr hj
      obtain ⟨a1, a2, a3⟩ := Oper.apart_spec (hf j oj hoj hji (mem_ready.1 hj).1 (waits_not hr hj hoj))
      obtain ⟨u0, s0, hN0⟩ := hN
      obtain ⟨h1, m, rfl, _⟩ := ih _ _ _ _ j oj (h u0 s0 hN0) (ready_mono hj hji) hoj hsj
      rw [hvs u0 s0 hN0 j hDj] at h1
      refine ⟨h1.unput (fun cs b => hsel j oj cs b hoj) a1, m + 1, rfl, LinM.spec i o N hi (ready_mono hr (Ne.symm hji)) hf.set hsp D (hw.set hr hj) hm ⟨u0, s0, hN0⟩ (hy.put (fun cs b => hsel i o cs b hi) a3) vs hvs ?_⟩
      intro u s' hus
      obtain ⟨_, m', hm', h2⟩ := ih _ _ _ _ j oj (h u s' hus) (ready_mono hj hji) hoj hsj
      obtain rfl : m = m' := by omega
      rw [hvs u s' hus j hDj] at h2
      rw [← Act.put_comm a _ _ a2, Array.setIfInBounds_comm _ _ hji]
      exact h2
    | fork N hall =>
      rw [hall j hj] at hsj
      cases hsj

theorem LinM.turns : ∀ (n : Nat) (vals : Nat → Value) (s : σ) (listed : Array Bool) (a : Act) (j : Nat) (oj : Oper), LinM P md ops Q S may sp vals n s listed a → j ∈ Region.ready md ops listed → ops[j]? = some oj → sp j = true →
    ∃ N, SpecAt P ops S s oj a N ∧ Lost md ops may s j N ∧ ∃ m, n = m + 1 ∧ ∀ u s', N u s' → ∃ vals', LinM P md ops Q S may sp vals' m s' (listed.setIfInBounds j true) (a.put oj.dst u) := by
  intro n
  induction n with
  | zero =>
    intro vals s listed a j oj hl hj _ _
    cases hl with
    | done hr _ => rw [hr] at hj; cases hj
  | succ n ih =>
    intro vals s listed a j oj hl hj hoj hsj
    cases hl with
    | done hr _ => rw [hr] at hj; cases hj
    | ord i o hi hr hf hsp hy h =>
      have hji : j ≠ i := fun e => by rw [e, hsp] at hsj; cases hsj
      obtain ⟨N, h1, h1m, m, rfl, h2⟩ := ih _ _ _ _ j oj h (ready_mono hj hji) hoj hsj
      obtain ⟨a1, a2, a3⟩ := Oper.apart_spec (hf j oj hoj hji (mem_ready.1 hj).1 (waits_not hr hj hoj))
      refine ⟨N, h1.unput (fun cs b => hsel j oj cs b hoj) a1, h1m, m + 1, rfl, fun u s' hus => ?_⟩
      obtain ⟨vals', h3⟩ := h2 u s' hus
      refine ⟨fun k => if k = i then vals i else vals' k, LinM.ord i o hi (ready_mono hr (Ne.symm hji)) hf.set hsp ?_ ?_⟩
      · simp only [if_true]
        exact hy.put (fun cs b => hsel i o cs b hi) a3
      · simp only [if_true]
        rw [← Act.put_comm a _ _ a2, Array.setIfInBounds_comm _ _ hji]
        refine LinM.agree _ _ _ _ _ _ h3 (fun k hk => ?_)
        by_cases e : k = i
        · subst e
          exfalso
          have hk' := unlisted_set hk
          have hin : k < listed.size := by
            rcases Nat.lt_or_ge k listed.size with c | c
            · exact c
            · have := (mem_ready.1 hr).1
              simp [Array.getElem?_eq_none c] at this
          simp [hin] at hk'
        · simp only [if_neg e]
    | spec i o N hi hr hf hsp D hw hm hN hy vs hvs h =>
      by_cases hji : j = i
      · subst hji
        rw [hi] at hoj
        injection hoj with hoj
        subst hoj
        exact ⟨N, hy, hm, n, rfl, fun u s' hus => ⟨_, h u s' hus⟩⟩
      · have h1 := hw.1 j oj hoj hsj hji (mem_ready.1 hj).1
        rw [hw.not_ready hr hj] at h1
        cases h1
    | fork N hall hne hm hy vs h => exact ⟨N j, hy j oj hj hoj, hm j hj, n, rfl, fun u s' hu => ⟨_, h j oj u s' hj hoj hu⟩⟩

theorem LinM.any : ∀ (n : Nat) (vals : Nat → Value) (s : σ) (listed : Array Bool) (a : Act) (w : World), LinM P md ops Q S may sp vals n s listed a → (∀ k, may s k = false → listed.getD k true = true) → S s w → wpAny P md ops Q n listed a w := by
  intro n
  induction n with
  | zero =>
    intro vals s listed a w hl _ hS
    cases hl with
    | done hr hQ => exact ⟨hr, hQ w hS⟩
  | succ n ih =>
    intro vals s listed a w hl hI hS
    refine ⟨fun h => ?_, fun j hj => ?_⟩
    · cases hl with
      | done hr hQ => exact hQ w hS
      | ord i o hi hr => rw [h] at hr; cases hr
      | spec i o N hi hr => rw [h] at hr; cases hr
      | fork N hall hne => exact absurd h hne
    · obtain ⟨hun, oj, hoj, hpre⟩ := mem_ready.1 hj
      have hset : ∀ k, listed.getD k true = true → (listed.setIfInBounds j true).getD k true = true := by
        intro k hk
        by_cases hjk : j = k
        · subst hjk
          rw [hk] at hun
          cases hun
        · rw [getD_set_ne true hjk]; exact hk
      have hself : (listed.setIfInBounds j true).getD j true = true := by
        rcases Nat.lt_or_ge j listed.size with h' | h'
        · simp [h']
        · simp [Array.getElem?_eq_none h']
      unfold wpOp
      simp only [hoj]
      cases hsj : sp j with
      | false =>
        obtain ⟨h1, m, hm, h2⟩ := LinM.first hsel _ _ _ _ _ j oj hl hj hoj hsj
        obtain rfl : n = m := by omega
        have hI' : ∀ k, may s k = false → (listed.setIfInBounds j true).getD k true = true := fun k hk => hset k (hI k hk)
        rcases h1 with ⟨hw, hg⟩ | ⟨hw, hv⟩
        · rw [if_pos hw]
          have hmj : may s j = true := by
            cases hmm : may s j with
            | true => rfl
            | false => rw [hI j hmm] at hun; cases hun
          refine Or.inl ((hg s w hmj hS).wp fun u w' ⟨hu, hS'⟩ => ?_)
          subst hu
          exact ih _ _ _ _ _ h2 hI' hS'
        · rw [if_neg (by rw [hw]; exact Bool.false_ne_true)]
          rw [hv] at h2
          exact ih _ _ _ _ _ h2 hI' hS
      | true =>
        obtain ⟨N, ⟨hw, hg⟩, hL, m, hm, h2⟩ := LinM.turns hsel _ _ _ _ _ j oj hl hj hoj hsj
        obtain rfl : n = m := by omega
        rw [if_pos hw]
        refine Or.inl ((hg w hS).wp fun u w' ⟨s', hu, hS'⟩ => ?_)
        obtain ⟨vals', h2'⟩ := h2 u s' hu
        refine ih _ _ _ _ _ h2' (fun k hk => ?_) hS'
        rcases hL u s' hu k hk with rfl | h3 | ⟨o, ho, e, he, hb, hon⟩
        · exact hself
        · exact hset k (hI k h3)
        · rw [hoj] at ho
          injection ho with ho
          subst ho
          have := hpre e he hb
          rw [hon] at this
          refine hset k ?_
          rcases Nat.lt_or_ge k listed.size with c | c
          · simp [c] at this ⊢; exact this
          · simp [Array.getElem?_eq_none c]
end

/-! ### the moves of a walk -/
section
variable {P : Program} {ops : Array Oper} {Q : Exit → Act → World → Prop} {σ : Type} {S : σ → World → Prop} {may : σ → Nat → Bool} {sp : Nat → Bool} {vals : Nat → Value}
theorem wp_region_linm {id : Nat} {a : Act} {w : World} (S : σ → World → Prop) (may : σ → Nat → Bool) (sp : Nat → Bool) (vals : Nat → Value) (s : σ) (hm : P.follows .mixedOrders = true) (hs : Region.noSelect ops = true) (hS : S s w.drew) (hI : ∀ k, may s k = true)
    (h : LinM P .any ops Q S may sp vals ops.size s (Array.replicate ops.size false) a) : (Code.region id ops true).wp P Q a w :=
  wp_region_any hm (LinM.any (Region.noSelect_spec hs) _ _ _ _ _ _ h (fun k hk => by rw [hI k] at hk; cases hk) hS)
theorem linm_step {n : Nat} {s : σ} {listed : Array Bool} {a : Act} {i : Nat} {o : Oper} {v : Value} {d : Option Tmp} (hi : ops[i]? = some o) (hd : o.dst = d) (hr : (Region.ready .any ops listed).contains i = true) (hf : Region.free .any ops listed i = true) (hsp : sp i = false) (hv : vals i = v)
    (hy : OrdM P ops S may i o v a) (h : LinM P .any ops Q S may sp vals n s (listed.setIfInBounds i true) (a.put d v)) : LinM P .any ops Q S may sp vals (n + 1) s listed a :=
  LinM.ord i o hi (by simpa using hr) (Region.free_spec hi hf) hsp (hv ▸ hy) (by rw [hd, hv]; exact h)
/-- does this one wait for that one itself? -/
theorem linm_fork2 {n : Nat} {s : σ} {listed : Array Bool} {a : Act} (i j : Nat) {oi oj : Oper} {di dj : Option Tmp} (vi vj : Value → σ → Nat → Value) (Ni Nj : Value → σ → Prop) (hr : Region.ready .any ops listed = [i, j]) (hij : i ≠ j) (hi : ops[i]? = some oi) (hj : ops[j]? = some oj) (hdi : oi.dst = di) (hdj : oj.dst = dj) (hsi : sp i = true) (hsj : sp j = true)
    (hmi : Lost .any ops may s i Ni) (hmj : Lost .any ops may s j Nj)
    (hwi : Region.wanted oi (yielded ops a.tmps) = true) (hyi : ∀ w, S s w → Gives P (execOp a.eval oi) w fun u w' => ∃ s', Ni u s' ∧ S s' w')
    (hwj : Region.wanted oj (yielded ops a.tmps) = true) (hyj : ∀ w, S s w → Gives P (execOp a.eval oj) w fun u w' => ∃ s', Nj u s' ∧ S s' w')
    (h1 : ∀ u s', Ni u s' → LinM P .any ops Q S may sp (vi u s') n s' (listed.setIfInBounds i true) (a.put di u))
    (h2 : ∀ u s', Nj u s' → LinM P .any ops Q S may sp (vj u s') n s' (listed.setIfInBounds j true) (a.put dj u)) : LinM P .any ops Q S may sp vals (n + 1) s listed a := by
  have hcase : ∀ k, k ∈ Region.ready .any ops listed → k = i ∨ k = j := fun k hk => by rw [hr] at hk; simpa using hk
  refine LinM.fork (fun k u s' => (k = i ∧ Ni u s') ∨ (k = j ∧ Nj u s')) ?_ (by rw [hr]; simp) ?_ ?_ (fun k u s' => if k = i then vi u s' else vj u s') ?_
  · intro k hk
    rcases hcase k hk with rfl | rfl
    · exact hsi
    · exact hsj
  · intro k hk u s' hu
    rcases hu with ⟨rfl, hu⟩ | ⟨rfl, hu⟩
    · exact hmi u s' hu
    · exact hmj u s' hu
  · intro k o hk ho
    rcases hcase k hk with rfl | rfl
    · rw [hi] at ho
      injection ho with ho
      subst ho
      exact ⟨hwi, fun w hS => (hyi w hS).mono fun u w' ⟨s', hu, hS'⟩ => ⟨s', Or.inl ⟨rfl, hu⟩, hS'⟩⟩
    · rw [hj] at ho
      injection ho with ho
      subst ho
      exact ⟨hwj, fun w hS => (hyj w hS).mono fun u w' ⟨s', hu, hS'⟩ => ⟨s', Or.inr ⟨rfl, hu⟩, hS'⟩⟩
  · intro k o u s' hk ho hu
    rcases hu with ⟨rfl, hu⟩ | ⟨rfl, hu⟩
    · rw [hi] at ho
      injection ho with ho
      subst ho
      rw [hdi]
      simp only [if_true]
      exact h1 u s' hu
    · rw [hj] at ho
      injection ho with ho
      subst ho
      rw [hdj]
      simp only [if_neg (Ne.symm hij)]
      exact h2 u s' hu
/-- one turn, where nothing else is ready -/
theorem linm_sole {n : Nat} {s : σ} {listed : Array Bool} {a : Act} (i : Nat) {oi : Oper} {di : Option Tmp} (vi : Value → σ → Nat → Value) (Ni : Value → σ → Prop) (hr : Region.ready .any ops listed = [i]) (hi : ops[i]? = some oi) (hdi : oi.dst = di) (hsi : sp i = true)
    (hmi : Lost .any ops may s i Ni)
    (hwi : Region.wanted oi (yielded ops a.tmps) = true) (hyi : ∀ w, S s w → Gives P (execOp a.eval oi) w fun u w' => ∃ s', Ni u s' ∧ S s' w')
    (h1 : ∀ u s', Ni u s' → LinM P .any ops Q S may sp (vi u s') n s' (listed.setIfInBounds i true) (a.put di u)) : LinM P .any ops Q S may sp vals (n + 1) s listed a := by
  have hcase : ∀ k, k ∈ Region.ready .any ops listed → k = i := fun k hk => by rw [hr] at hk; simpa using hk
  refine LinM.fork (fun k u s' => Ni u s') ?_ (by rw [hr]; simp) ?_ ?_ (fun _ u s' => vi u s') ?_
  · intro k hk
    rw [hcase k hk]; exact hsi
  · intro k hk u s' hu
    rw [hcase k hk]; exact hmi u s' hu
  · intro k o hk ho
    obtain rfl := hcase k hk
    rw [hi] at ho
    injection ho with ho
    subst ho
    exact ⟨hwi, hyi⟩
  · intro k o u s' hk ho hu
    obtain rfl := hcase k hk
    rw [hi] at ho
    injection ho with ho
    subst ho
    rw [hdi]
    exact h1 u s' hu
theorem linm_done {n : Nat} {s : σ} {listed : Array Bool} {a : Act} (hr : Region.ready .any ops listed = []) (hQ : ∀ w, S s w → Q .normal a w) : LinM P .any ops Q S may sp vals n s listed a := LinM.done hr hQ
end
end Go.Proofs.Ythngbakbiocadaa.Lv
