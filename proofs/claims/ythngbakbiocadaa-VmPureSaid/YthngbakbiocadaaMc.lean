/-
  A region that draws its order, gone through in ONE order, as in Hlin; with two things more: an operation need not give its value in kinds that come behind it ('may'), and where all that is ready turns the kind, all of it is taken ('fork').
-/
import Derived.Test.YthngbakbiocadaaMb
import Derived.Test.YthngbakbiocadaaMa
import Derived.BigQuiet

namespace Go.Proofs.Ythngbakbiocadaa
set_option maxRecDepth 100000
open Go.RowKit

section
variable {P : Program} {ops : Array Oper} {Q : Exit → Act → World → Prop} {md : Region.Mode} {σ : Type} {S : σ → World → Prop} {may : σ → Nat → Bool} {sp : Nat → Bool} {vals : Nat → Value}

def OrdM (P : Program) (ops : Array Oper) (S : σ → World → Prop) (may : σ → Nat → Bool) (i : Nat) (o : Oper) (v : Value) (a : Act) : Prop :=
  (Region.wanted o (yielded ops a.tmps) = true ∧ ∀ s w, may s i = true → S s w → Gives P (execOp a.eval o) w fun u w' => u = v ∧ S s w') ∨
  (Region.wanted o (yielded ops a.tmps) = false ∧ v = undef)
theorem OrdM.put {i : Nat} {oi oj : Oper} {v u : Value} {a : Act} (hs : ∀ cs b, oi.op ≠ .select cs b) (h : ∀ d, oj.dst = some d → d ∉ oi.looksAt ops) (hy : OrdM P ops S may i oi v a) : OrdM P ops S may i oi v (a.put oj.dst u) := by
  unfold OrdM at *
  rw [execOp_put oi hs a oj.dst u h, wanted_put oi a oj.dst u h]
  exact hy
theorem OrdM.unput {i : Nat} {oi oj : Oper} {v u : Value} {a : Act} (hs : ∀ cs b, oj.op ≠ .select cs b) (h : ∀ d, oi.dst = some d → d ∉ oj.looksAt ops) (hy : OrdM P ops S may i oj v (a.put oi.dst u)) : OrdM P ops S may i oj v a := by
  unfold OrdM at *
  rw [execOp_put oj hs a oi.dst u h, wanted_put oj a oi.dst u h] at hy
  exact hy
/-- whatever can't come any more behind a turn was waited for by it -/
def Lost (md : Region.Mode) (ops : Array Oper) (may : σ → Nat → Bool) (s : σ) (i : Nat) (N : Value → σ → Prop) : Prop :=
  ∀ u s', N u s' → ∀ k, may s' k = false → k = i ∨ may s k = false ∨ ∃ o, ops[i]? = some o ∧ ∃ e ∈ o.after, Region.binds md e = true ∧ e.on = k
/-- one order, step by step -/
inductive LinM (P : Program) (md : Region.Mode) (ops : Array Oper) (Q : Exit → Act → World → Prop) (S : σ → World → Prop) (may : σ → Nat → Bool) (sp : Nat → Bool) (vals : Nat → Value) : Nat → σ → Array Bool → Act → Prop
  | done {n : Nat} {s : σ} {listed : Array Bool} {a : Act} (hr : Region.ready md ops listed = []) (hQ : ∀ w, S s w → Q .normal a w) : LinM P md ops Q S may sp vals n s listed a
  | ord {n : Nat} {s : σ} {listed : Array Bool} {a : Act} (i : Nat) (o : Oper) (hi : ops[i]? = some o) (hr : i ∈ Region.ready md ops listed) (hf : FreeAt md ops listed i o) (hsp : sp i = false)
      (hy : OrdM P ops S may i o (vals i) a) (h : LinM P md ops Q S may sp vals n s (listed.setIfInBounds i true) (a.put o.dst (vals i))) : LinM P md ops Q S may sp vals (n + 1) s listed a
  | spec {n : Nat} {s : σ} {listed : Array Bool} {a : Act} (i : Nat) (o : Oper) (N : Value → σ → Prop) (hi : ops[i]? = some o) (hr : i ∈ Region.ready md ops listed) (hf : FreeAt md ops listed i o) (hsp : sp i = true)
      (hw : ∃ D : Nat → Bool, WaitsFor md ops sp listed i D) (hm : Lost md ops may s i N)
      (hN : ∃ u s', N u s') (hy : SpecAt P ops S s o a N) (h : ∀ u s', N u s' → LinM P md ops Q S may sp vals n s' (listed.setIfInBounds i true) (a.put o.dst u)) : LinM P md ops Q S may sp vals (n + 1) s listed a
  | fork {n : Nat} {s : σ} {listed : Array Bool} {a : Act} (N : Nat → Value → σ → Prop) (hall : ∀ j ∈ Region.ready md ops listed, sp j = true) (hne : Region.ready md ops listed ≠ []) (hm : ∀ j ∈ Region.ready md ops listed, Lost md ops may s j (N j))
      (hy : ∀ j o, j ∈ Region.ready md ops listed → ops[j]? = some o → SpecAt P ops S s o a (N j)) (h : ∀ j o u s', j ∈ Region.ready md ops listed → ops[j]? = some o → N j u s' → LinM P md ops Q S may sp vals n s' (listed.setIfInBounds j true) (a.put o.dst u)) : LinM P md ops Q S may sp vals (n + 1) s listed a

variable (hsel : ∀ (j : Nat) (o : Oper) cs b, ops[j]? = some o → o.op ≠ .select cs b)
include hsel

theorem LinM.first : ∀ (n : Nat) (s : σ) (listed : Array Bool) (a : Act) (j : Nat) (oj : Oper), LinM P md ops Q S may sp vals n s listed a → j ∈ Region.ready md ops listed → ops[j]? = some oj → sp j = false →
    OrdM P ops S may j oj (vals j) a ∧ ∃ m, n = m + 1 ∧ LinM P md ops Q S may sp vals m s (listed.setIfInBounds j true) (a.put oj.dst (vals j)) := by
  intro n
  induction n with
  | zero =>
    intro s listed a j oj hl hj _ _
    cases hl with
    | done hr _ => rw [hr] at hj; cases hj
  | succ n ih =>
    intro s listed a j oj hl hj hoj hsj
    cases hl with
    | done hr _ => rw [hr] at hj; cases hj
    | ord i o hi hr hf hsp hy h =>
      by_cases hji : j = i
      · subst hji
        rw [hi] at hoj
        injection hoj with hoj
        subst hoj
        exact ⟨hy, n, rfl, h⟩
      · obtain ⟨h1, m, rfl, h2⟩ := ih _ _ _ j oj h (ready_mono hj hji) hoj hsj
        obtain ⟨a1, a2, a3⟩ := Oper.apart_spec (hf j oj hoj hji (mem_ready.1 hj).1 (waits_not hr hj hoj))
        refine ⟨h1.unput (fun cs b => hsel j oj cs b hoj) a1, m + 1, rfl, LinM.ord i o hi (ready_mono hr (Ne.symm hji)) hf.set hsp (hy.put (fun cs b => hsel i o cs b hi) a3) ?_⟩
        rw [← Act.put_comm a _ _ a2, Array.setIfInBounds_comm _ _ hji]
        exact h2
    | spec i o N hi hr hf hsp hw hm hN hy h =>
      have hji : j ≠ i := fun e => by rw [e, hsp] at hsj; cases hsj
      obtain ⟨a1, a2, a3⟩ := Oper.apart_spec (hf j oj hoj hji (mem_ready.1 hj).1 (waits_not hr hj hoj))
      obtain ⟨u0, s0, hN0⟩ := hN
      obtain ⟨h1, m, rfl, _⟩ := ih _ _ _ j oj (h u0 s0 hN0) (ready_mono hj hji) hoj hsj
      refine ⟨h1.unput (fun cs b => hsel j oj cs b hoj) a1, m + 1, rfl, LinM.spec i o N hi (ready_mono hr (Ne.symm hji)) hf.set hsp (hw.imp fun _ hW => hW.set hr hj) hm ⟨u0, s0, hN0⟩ (hy.put (fun cs b => hsel i o cs b hi) a3) ?_⟩
      intro u s' hus
      obtain ⟨_, m', hm', h2⟩ := ih _ _ _ j oj (h u s' hus) (ready_mono hj hji) hoj hsj
      obtain rfl : m = m' := by omega
      rw [← Act.put_comm a _ _ a2, Array.setIfInBounds_comm _ _ hji]
      exact h2
    | fork N hall =>
      rw [hall j hj] at hsj
      cases hsj

theorem LinM.turns : ∀ (n : Nat) (s : σ) (listed : Array Bool) (a : Act) (j : Nat) (oj : Oper), LinM P md ops Q S may sp vals n s listed a → j ∈ Region.ready md ops listed → ops[j]? = some oj → sp j = true →
    ∃ N, SpecAt P ops S s oj a N ∧ Lost md ops may s j N ∧ ∃ m, n = m + 1 ∧ ∀ u s', N u s' → LinM P md ops Q S may sp vals m s' (listed.setIfInBounds j true) (a.put oj.dst u) := by
  intro n
  induction n with
  | zero =>
    intro s listed a j oj hl hj _ _
    cases hl with
    | done hr _ => rw [hr] at hj; cases hj
  | succ n ih =>
    intro s listed a j oj hl hj hoj hsj
    cases hl with
    | done hr _ => rw [hr] at hj; cases hj
    | ord i o hi hr hf hsp hy h =>
      have hji : j ≠ i := fun e => by rw [e, hsp] at hsj; cases hsj
      obtain ⟨N, h1, h1m, m, rfl, h2⟩ := ih _ _ _ j oj h (ready_mono hj hji) hoj hsj
      obtain ⟨a1, a2, a3⟩ := Oper.apart_spec (hf j oj hoj hji (mem_ready.1 hj).1 (waits_not hr hj hoj))
      refine ⟨N, h1.unput (fun cs b => hsel j oj cs b hoj) a1, h1m, m + 1, rfl, fun u s' hus => LinM.ord i o hi (ready_mono hr (Ne.symm hji)) hf.set hsp (hy.put (fun cs b => hsel i o cs b hi) a3) ?_⟩
      rw [← Act.put_comm a _ _ a2, Array.setIfInBounds_comm _ _ hji]
      exact h2 u s' hus
    | spec i o N hi hr hf hsp hw hm hN hy h =>
      by_cases hji : j = i
      · subst hji
        rw [hi] at hoj
        injection hoj with hoj
        subst hoj
        exact ⟨N, hy, hm, n, rfl, h⟩
      · obtain ⟨D, hW⟩ := hw
        have h1 := hW.1 j oj hoj hsj hji (mem_ready.1 hj).1
        rw [hW.not_ready hr hj] at h1
        cases h1
    | fork N hall hne hm hy h => exact ⟨N j, hy j oj hj hoj, hm j hj, n, rfl, fun u s' hu => h j oj u s' hj hoj hu⟩

theorem LinM.any : ∀ (n : Nat) (s : σ) (listed : Array Bool) (a : Act) (w : World), LinM P md ops Q S may sp vals n s listed a → (∀ k, may s k = false → listed.getD k true = true) → S s w → wpAny P md ops Q n listed a w := by
  intro n
  induction n with
  | zero =>
    intro s listed a w hl _ hS
    cases hl with
    | done hr hQ => exact ⟨hr, hQ w hS⟩
  | succ n ih =>
    intro s listed a w hl hI hS
    refine ⟨fun h => ?_, fun j hj => ?_⟩
    · cases hl with
      | done hr hQ => exact hQ w hS
      | ord i o hi hr => rw [h] at hr; cases hr
      | spec i o N hi hr => rw [h] at hr; cases hr
      | fork N hall hne => exact absurd h hne
    · obtain ⟨hun, oj, hoj, hpre⟩ := mem_ready.1 hj
      have hset : ∀ k, listed.getD k true = true → (listed.setIfInBounds j true).getD k true = true := by
        intro k hk
        by_cases hjk : j = k
        · subst hjk
          rw [hk] at hun
          cases hun
        · rw [getD_set_ne true hjk]; exact hk
      have hself : (listed.setIfInBounds j true).getD j true = true := by
        rcases Nat.lt_or_ge j listed.size with h' | h'
        · simp [h']
        · simp [Array.getElem?_eq_none h']
      unfold wpOp
      simp only [hoj]
      cases hsj : sp j with
      | false =>
        obtain ⟨h1, m, hm, h2⟩ := LinM.first hsel _ _ _ _ j oj hl hj hoj hsj
        obtain rfl : n = m := by omega
        have hI' : ∀ k, may s k = false → (listed.setIfInBounds j true).getD k true = true := fun k hk => hset k (hI k hk)
        rcases h1 with ⟨hw, hg⟩ | ⟨hw, hv⟩
        · rw [if_pos hw]
          have hmj : may s j = true := by
            cases hmm : may s j with
            | true => rfl
            | false => rw [hI j hmm] at hun; cases hun
          refine Or.inl ((hg s w hmj hS).wp fun u w' ⟨hu, hS'⟩ => ?_)
          subst hu
          exact ih _ _ _ _ h2 hI' hS'
        · rw [if_neg (by rw [hw]; exact Bool.false_ne_true)]
          rw [hv] at h2
          exact ih _ _ _ _ h2 hI' hS
      | true =>
        obtain ⟨N, ⟨hw, hg⟩, hL, m, hm, h2⟩ := LinM.turns hsel _ _ _ _ j oj hl hj hoj hsj
        obtain rfl : n = m := by omega
        rw [if_pos hw]
        refine Or.inl ((hg w hS).wp fun u w' ⟨s', hu, hS'⟩ => ih _ _ _ _ (h2 u s' hu) (fun k hk => ?_) hS')
        rcases hL u s' hu k hk with rfl | h3 | ⟨o, ho, e, he, hb, hon⟩
        · exact hself
        · exact hset k (hI k h3)
        · rw [hoj] at ho
          injection ho with ho
          subst ho
          have := hpre e he hb
          rw [hon] at this
          refine hset k ?_
          rcases Nat.lt_or_ge k listed.size with c | c
          · simp [c] at this ⊢; exact this
          · simp [Array.getElem?_eq_none c]
end

/-! ### the moves of a walk -/
section
variable {P : Program} {ops : Array Oper} {Q : Exit → Act → World → Prop} {σ : Type} {S : σ → World → Prop} {may : σ → Nat → Bool} {sp : Nat → Bool} {vals : Nat → Value}
theorem wp_region_linm {id : Nat} {a : Act} {w : World} (S : σ → World → Prop) (may : σ → Nat → Bool) (sp : Nat → Bool) (vals : Nat → Value) (s : σ) (hm : P.follows .mixedOrders = true) (hs : Region.noSelect ops = true) (hS : S s w.drew) (hI : ∀ k, may s k = true)
    (h : LinM P .any ops Q S may sp vals ops.size s (Array.replicate ops.size false) a) : (Code.region id ops true).wp P Q a w :=
  wp_region_any hm (LinM.any (Region.noSelect_spec hs) _ _ _ _ _ h (fun k hk => by rw [hI k] at hk; cases hk) hS)
theorem linm_step {n : Nat} {s : σ} {listed : Array Bool} {a : Act} {i : Nat} {o : Oper} {v : Value} {d : Option Tmp} (hi : ops[i]? = some o) (hd : o.dst = d) (hr : (Region.ready .any ops listed).contains i = true) (hf : Region.free .any ops listed i = true) (hsp : sp i = false) (hv : vals i = v)
    (hy : OrdM P ops S may i o v a) (h : LinM P .any ops Q S may sp vals n s (listed.setIfInBounds i true) (a.put d v)) : LinM P .any ops Q S may sp vals (n + 1) s listed a :=
  LinM.ord i o hi (by simpa using hr) (Region.free_spec hi hf) hsp (hv ▸ hy) (by rw [hd, hv]; exact h)
/-- does this one wait for that one itself? -/
def predB (ops : Array Oper) (i k : Nat) : Bool := match ops[i]? with
  | some o => o.after.any fun e => Region.binds .any e && e.on == k
  | none => false
theorem predB_spec {i k : Nat} (h : predB ops i k = true) : ∃ o, ops[i]? = some o ∧ ∃ e ∈ o.after, Region.binds .any e = true ∧ e.on = k := by
  unfold predB at h
  cases ho : ops[i]? with
  | none => rw [ho] at h; cases h
  | some o =>
    rw [ho] at h
    obtain ⟨e, he, hb⟩ := Array.any_eq_true'.1 h
    simp only [Bool.and_eq_true, beq_iff_eq] at hb
    exact ⟨o, rfl, e, he, hb.1, hb.2⟩
/-- nothing is lost by this turn -/
theorem lost_no {s : σ} {i : Nat} {N : Value → σ → Prop} (h : ∀ u s', N u s' → ∀ k, may s' k = true) : Lost .any ops may s i N := fun u s' hu k hk => by
  rw [h u s' hu k] at hk; cases hk
/-- what is lost was waited for -/
theorem lost_those {s : σ} {i : Nat} {N : Value → σ → Prop} (l : List Nat) (hl : l.all (predB ops i) = true) (h : ∀ u s', N u s' → ∀ k, may s' k = false → k ∈ l) : Lost .any ops may s i N := fun u s' hu k hk =>
  Or.inr (Or.inr (predB_spec (List.all_eq_true.1 hl k (h u s' hu k hk))))
theorem linm_turn {n : Nat} {s : σ} {listed : Array Bool} {a : Act} {i : Nat} {o : Oper} {d : Option Tmp} (D : List Nat) (N : Value → σ → Prop) (hi : ops[i]? = some o) (hd : o.dst = d) (hr : (Region.ready .any ops listed).contains i = true) (hf : Region.free .any ops listed i = true) (hsp : sp i = true)
    (hw : waitD ops sp listed i D = true) (hm : Lost .any ops may s i N) (hN : ∃ u s', N u s') (hwa : Region.wanted o (yielded ops a.tmps) = true) (hy : ∀ w, S s w → Gives P (execOp a.eval o) w fun u w' => ∃ s', N u s' ∧ S s' w')
    (h : ∀ u s', N u s' → LinM P .any ops Q S may sp vals n s' (listed.setIfInBounds i true) (a.put d u)) : LinM P .any ops Q S may sp vals (n + 1) s listed a :=
  LinM.spec i o N hi (by simpa using hr) (Region.free_spec hi hf) hsp ⟨_, waitD_spec hw⟩ hm hN ⟨hwa, hy⟩ (by rw [hd]; exact h)
/-- two turns that are ready at once -/
theorem linm_fork2 {n : Nat} {s : σ} {listed : Array Bool} {a : Act} (i j : Nat) {oi oj : Oper} {di dj : Option Tmp} (Ni Nj : Value → σ → Prop) (hr : Region.ready .any ops listed = [i, j]) (hij : i ≠ j) (hi : ops[i]? = some oi) (hj : ops[j]? = some oj) (hdi : oi.dst = di) (hdj : oj.dst = dj) (hsi : sp i = true) (hsj : sp j = true)
    (hmi : Lost .any ops may s i Ni) (hmj : Lost .any ops may s j Nj)
    (hwi : Region.wanted oi (yielded ops a.tmps) = true) (hyi : ∀ w, S s w → Gives P (execOp a.eval oi) w fun u w' => ∃ s', Ni u s' ∧ S s' w')
    (hwj : Region.wanted oj (yielded ops a.tmps) = true) (hyj : ∀ w, S s w → Gives P (execOp a.eval oj) w fun u w' => ∃ s', Nj u s' ∧ S s' w')
    (h1 : ∀ u s', Ni u s' → LinM P .any ops Q S may sp vals n s' (listed.setIfInBounds i true) (a.put di u))
    (h2 : ∀ u s', Nj u s' → LinM P .any ops Q S may sp vals n s' (listed.setIfInBounds j true) (a.put dj u)) : LinM P .any ops Q S may sp vals (n + 1) s listed a := by
  have hcase : ∀ k, k ∈ Region.ready .any ops listed → k = i ∨ k = j := fun k hk => by rw [hr] at hk; simpa using hk
  refine LinM.fork (fun k u s' => (k = i ∧ Ni u s') ∨ (k = j ∧ Nj u s')) ?_ (by rw [hr]; simp) ?_ ?_ ?_
  · intro k hk
    rcases hcase k hk with rfl | rfl
    · exact hsi
    · exact hsj
  · intro k hk u s' hu
    rcases hu with ⟨rfl, hu⟩ | ⟨rfl, hu⟩
    · exact hmi u s' hu
    · exact hmj u s' hu
  · intro k o hk ho
    rcases hcase k hk with rfl | rfl
    · rw [hi] at ho
      injection ho with ho
      subst ho
      exact ⟨hwi, fun w hS => (hyi w hS).mono fun u w' ⟨s', hu, hS'⟩ => ⟨s', Or.inl ⟨rfl, hu⟩, hS'⟩⟩
    · rw [hj] at ho
      injection ho with ho
      subst ho
      exact ⟨hwj, fun w hS => (hyj w hS).mono fun u w' ⟨s', hu, hS'⟩ => ⟨s', Or.inr ⟨rfl, hu⟩, hS'⟩⟩
  · intro k o u s' hk ho hu
    rcases hu with ⟨rfl, hu⟩ | ⟨rfl, hu⟩
    · rw [hi] at ho
      injection ho with ho
      subst ho
      rw [hdi]
      exact h1 u s' hu
    · rw [hj] at ho
      injection ho with ho
      subst ho
      rw [hdj]
      exact h2 u s' hu
/-- one turn, where nothing else is ready -/
theorem linm_sole {n : Nat} {s : σ} {listed : Array Bool} {a : Act} (i : Nat) {oi : Oper} {di : Option Tmp} (Ni : Value → σ → Prop) (hr : Region.ready .any ops listed = [i]) (hi : ops[i]? = some oi) (hdi : oi.dst = di) (hsi : sp i = true)
    (hmi : Lost .any ops may s i Ni)
    (hwi : Region.wanted oi (yielded ops a.tmps) = true) (hyi : ∀ w, S s w → Gives P (execOp a.eval oi) w fun u w' => ∃ s', Ni u s' ∧ S s' w')
    (h1 : ∀ u s', Ni u s' → LinM P .any ops Q S may sp vals n s' (listed.setIfInBounds i true) (a.put di u)) : LinM P .any ops Q S may sp vals (n + 1) s listed a := by
  have hcase : ∀ k, k ∈ Region.ready .any ops listed → k = i := fun k hk => by rw [hr] at hk; simpa using hk
  refine LinM.fork (fun k u s' => Ni u s') ?_ (by rw [hr]; simp) ?_ ?_ ?_
  · intro k hk
    rw [hcase k hk]; exact hsi
  · intro k hk u s' hu
    rw [hcase k hk]; exact hmi u s' hu
  · intro k o hk ho
    obtain rfl := hcase k hk
    rw [hi] at ho
    injection ho with ho
    subst ho
    exact ⟨hwi, hyi⟩
  · intro k o u s' hk ho hu
    obtain rfl := hcase k hk
    rw [hi] at ho
    injection ho with ho
    subst ho
    rw [hdi]
    exact h1 u s' hu
theorem linm_done {n : Nat} {s : σ} {listed : Array Bool} {a : Act} (hr : Region.ready .any ops listed = []) (hQ : ∀ w, S s w → Q .normal a w) : LinM P .any ops Q S may sp vals n s listed a := LinM.done hr hQ
theorem ordm_value {i : Nat} {o : Oper} {v : Value} {a : Act} (hw : Region.wanted o (yielded ops a.tmps) = true) (h : ∀ s w, may s i = true → S s w → (execOp a.eval o).run P w = .ok (.value v) w) : OrdM P ops S may i o v a :=
  Or.inl ⟨hw, fun s w hM hS => gives_value (h s w hM hS) ⟨rfl, hS⟩⟩
theorem ordm_skip {i : Nat} {o : Oper} {a : Act} (hw : Region.wanted o (yielded ops a.tmps) = false) : OrdM P ops S may i o undef a := Or.inr ⟨hw, rfl⟩
theorem ordm_call {i : Nat} {o : Oper} {v : Value} {a : Act} {f : FuncId} {args : Array Value} (hw : Region.wanted o (yielded ops a.tmps) = true) (hop : ∀ w, (execOp a.eval o).run P w = .ok (.enter f args) w)
    (h : ∀ s w, may s i = true → S s w → Calls P f args w fun e w' => e = .returned v ∧ S s w') : OrdM P ops S may i o v a :=
  Or.inl ⟨hw, fun s w hM hS => gives_call (hop w) ((h s w hM hS).mono fun _ _ ⟨he, hS'⟩ => ⟨v, he, rfl, hS'⟩)⟩
end
end Go.Proofs.Ythngbakbiocadaa

/-
  What an append gives, for a region in one order.
-/
namespace Go.Proofs.Ythngbakbiocadaa
set_option maxRecDepth 100000
open Go.RowKit Go.Maps

theorem gives_append {o : Oper} {a : Act} {w : World} {R : Value → World → Prop} (s x : Operand) (t : TypeId)
    (ho : o.op = .call { callee := .builtin .append, args := #[s, x], argTypes := #[t, t] })
    (base : Nat) (e : TypeId) (i : TypeInfo) (z : Value) (size bytes : Nat) (ht : Try.prog.underlying t = some (.slice e)) (hi : Try.prog.info? e = some i) (hz : i.zero = some z)
    (hsize : i.size = size) (hby : i.bytes = bytes) (hzs : z.cells.size = size) (hsz : 0 < size)
    (v : Value) (n : Nat) (xs : List Value) (hs : a.eval s = v) (hown : w.ownsRow base e size v n xs)
    (ad : Addr) (m c : Nat) (news : List Value) (hx : a.eval x = .slice (some ad) m c) (hl : news.length = m * size) (hnews : ∀ j u, news[j]? = some u → w.cell? (ad.add j) = some u) (h1 : ∀ u ∈ news, u.oneCell' = true)
    (h63 : n + m ≤ maxLen) (hbytes : (n + m) * bytes ≤ 140737488355328) (hbase : base ≤ w.heap.size)
    (h : ∀ v' w', w'.ownsRow base e size v' (n + m) (xs ++ news) → w.grownBy w' v.ownBlock → (v' = .slice none 0 0 ↔ v = .slice none 0 0 ∧ m = 0) → (v'.ownBlock = v.ownBlock ∨ v'.ownBlock = some w.heap.size) → R v' w') :
    Gives Try.prog (execOp a.eval o) w R := by
  obtain ⟨v', w', hr, h2, h3, h4, h5⟩ := run_append_own_at (P := Try.prog) w base t o.type e i z size bytes ht hi hz hsize hby hzs hsz v n xs hown ad m c news hl hnews h1 h63 hbytes hbase
  refine gives_to (v := v') (w' := w') ?_ (h v' w' h2 h3 h4 h5)
  unfold execOp
  simp only [ho, resolve, invoke, builtin, Sem.run_bind, Sem.run_pure, Result.andThen_ok, List.map_toArray, List.map_cons, List.map_nil, hs, hx, hr]
end Go.Proofs.Ythngbakbiocadaa

/-
  An entry that is appended to a map's own slice, and the slice stored: the kinds of worlds of such a region.
-/
namespace Go.Proofs.Ythngbakbiocadaa
set_option maxRecDepth 100000
open Go.RowKit Go.Maps

def kd (lru : Bool) : Value := .int .i64 (match lru with | true => 2 | false => 1)
/-- a map on its way through a call, and a row beside it -/
structure InS (et : TypeId) (hd : Value) (w0 : World) (base b : Nat) (sv0 : Value) (room : Nat) (l : List Z.En) (B : Nat) (vs : List Value) (W : World) (sv : Value) : Prop where
  way : MpTo et hd w0 base b sv0 room l W sv
  row : RowAt W B vs
  pos : 0 < vs.length
  far : ¬ Foot b sv B
  old : w0.heap.size ≤ B
theorem InS.lt {et : TypeId} {hd : Value} {w0 : World} {base b : Nat} {sv0 : Value} {room : Nat} {l : List Z.En} {B : Nat} {vs : List Value} {W : World} {sv : Value} (k : InS et hd w0 base b sv0 room l B vs W sv) : B < W.heap.size := rows_lt k.row k.pos
theorem InS.call {et : TypeId} {hd : Value} {w0 : World} {base b : Nat} {sv0 : Value} {room : Nat} {l : List Z.En} {B : Nat} {vs : List Value} {W W' : World} {sv : Value} (k : InS et hd w0 base b sv0 room l B vs W sv) (hb : Below W.heap.size W W') : InS et hd w0 base b sv0 room l B vs W' sv :=
  ⟨k.way.call hb, k.row.below hb k.lt, k.pos, k.far, k.old⟩
theorem InS.turn {et : TypeId} {hd : Value} {w0 : World} {base b : Nat} {sv0 : Value} {room : Nat} {l l' : List Z.En} {B : Nat} {vs : List Value} {W W' : World} {sv sv' : Value} (k : InS et hd w0 base b sv0 room l B vs W sv) (hb : MpTo et hd W base b sv room l' W' sv') : InS et hd w0 base b sv0 room l' B vs W' sv' :=
  ⟨k.way.trans hb, k.row.of_block (hb.but.block B k.lt k.far), k.pos, fun hf => by
    rcases hf with e | hf
    · exact k.far (Or.inl e)
    · rcases hb.new B hf with h1 | h1
      · exact k.far (Or.inr h1)
      · have := k.lt
        omega, k.old⟩
inductive PK
  | a
  | b
  | c (v : Value)
  | d (v : Value)
def ApS (et : TypeId) (hd : Value) (wx : World) (base b : Nat) (sv : Value) (room : Nat) (l : List Z.En) (x : Z.En) : PK → World → Prop
  | .a, W => W = wx
  | .b, W => W = wx.alloc (.cells (enL x).toArray et)
  | .c v, W => W.ownsRow base et 5 v (l ++ [x]).length (cellsE (l ++ [x])) ∧ But (fun k => sv.ownBlock = some k) wx W ∧ (∀ k, v.ownBlock = some k → sv.ownBlock = some k ∨ wx.heap.size ≤ k)
  | .d v, W => MpTo et hd wx base b sv room (l ++ [x]) W v
def apMay (L : Nat) : PK → Nat → Bool
  | .d _, k => !(k == L)
  | _, _ => true
theorem apMay_no {ops : Array Oper} {L i : Nat} {s : PK} {N : Value → PK → Prop} (h : ∀ u s', N u s' → s' = .b ∨ ∃ v, s' = .c v) : Lost .any ops (apMay L) s i N := lost_no fun u s' hu k => by
  rcases h u s' hu with rfl | ⟨v, rfl⟩ <;> rfl
theorem apMay_last {ops : Array Oper} {L i : Nat} {s : PK} {v : Value} (h : [L].all (predB ops i) = true) : Lost .any ops (apMay L) s i (fun _ s' => s' = .d v) := lost_those [L] h fun u s' hu k hk => by
  subst hu
  simp only [apMay, Bool.not_eq_false', beq_iff_eq] at hk
  simp [hk]
section
variable {et : TypeId} {hd : Value} {wx : World} {base b : Nat} {sv : Value} {room : Nat} {l : List Z.En} {x : Z.En}
theorem ApS.but {s : PK} {W : World} (h0 : MpAt et hd wx base b sv room l) (h : ApS et hd wx base b sv room l x s W) : But (Foot b sv) wx W := by
  cases s with
  | a => rw [show W = wx from h]; exact But.refl _ _
  | b => rw [show W = _ from h]; exact But.alloc _ _ _
  | c v => exact h.2.1.mono (fun k hk => Or.inl (Or.inr hk))
  | d v => exact MpTo.but (show MpTo et hd wx base b sv room (l ++ [x]) W v from h)
theorem ApS.row {s : PK} {W : World} (h0 : MpAt et hd wx base b sv room l) (h : ApS et hd wx base b sv room l x s W) {L : Nat} (hm : apMay L s L = true) : RowAt W b [hd, .int .i64 (room : Int), sv] := by
  cases s with
  | a => rw [show W = wx from h]; exact h0.row
  | b => rw [show W = _ from h]; exact h0.row.alloc _
  | c v => exact h0.row.but h.2.1 (fun e => h0.ne e)
  | d v => simp [apMay] at hm
theorem ApS.other {s : PK} {W : World} {B : Nat} {v : Value} {vs : List Value} (h0 : MpAt et hd wx base b sv room l) (hr : RowAt wx B (v :: vs)) (hf : ¬ Foot b sv B) (h : ApS et hd wx base b sv room l x s W) : RowAt W B (v :: vs) := hr.but (h.but h0) hf
end
theorem run_ld_row {t : TypeId} {n : Nat} (ht : RowT t n) {ρ : Operand → Value} {op : Oper} {w : World} {b : Nat} {vs : List Value} (k : RowAt w b vs) (hl : vs.length = n) (x : Operand) (ho : op.op = .load t x) (hx : ρ x = .pointer (some ⟨b, 0, none⟩)) :
    (execOp ρ op).run Try.prog w = .ok (.value (.agg vs.toArray)) w := by
  unfold execOp
  have := k.loads ht hl
  simp only [ho, hx, Instr.loadAt, Instr.sureAddr, Sem.run_bind, Sem.run_pure, Result.andThen_ok, this]
theorem run_store_slice {t : TypeId} (ht : t = 35 ∨ t = 49) {ρ : Operand → Value} {op : Oper} {w : World} {b o : Nat} {u : Value} {A : Option Addr} {n c : Nat} (x y : Operand) (ho : op.op = .store t x y) (hx : ρ x = .pointer (some ⟨b, o, none⟩)) (hy : ρ y = .slice A n c)
    (hc : w.cell? ⟨b, o, none⟩ = some u) (hf : w.frozen? ⟨b, o, none⟩ = false) : (execOp ρ op).run Try.prog w = .ok .skip (w.setCell ⟨b, o, none⟩ (.slice A n c)) := by
  unfold execOp
  simp only [ho, hx, hy]
  rcases ht with rfl | rfl
  · go_simp
  · go_simp
theorem gives_skip {P : Program} {m : Sem Next} {w w' : World} {R : Value → World → Prop} (h : m.run P w = .ok .skip w') (hR : R undef w') : Gives P m w R := by
  unfold Gives; rw [h]; exact hR
theorem run_oneE (t st : TypeId) (ht : t = 74 ∧ st = 35 ∨ t = 59 ∧ st = 49) (x : Z.En) (w : World) : (Instr.buildSlice st 1 #[(0, enV x)]).run Try.prog w = .ok (.slice (some ⟨w.heap.size, 0, none⟩) 1 1) (w.alloc (.cells (enL x).toArray t)) := by
  rcases ht with ⟨rfl, rfl⟩ | ⟨rfl, rfl⟩
  · unfold enV enL
    go_simp
  · unfold enV enL
    go_simp
theorem exec_oneE {t st : TypeId} (ht : t = 74 ∧ st = 35 ∨ t = 59 ∧ st = 49) {ρ : Operand → Value} {op : Oper} {w : World} {x : Z.En} (y : Operand) (ho : op.op = .buildSlice st 1 #[(0, y)]) (hy : ρ y = .agg (enL x).toArray) :
    (execOp ρ op).run Try.prog w = .ok (.value (.slice (some ⟨w.heap.size, 0, none⟩) 1 1)) (w.alloc (.cells (enL x).toArray t)) := by
  have hr := run_oneE t st ht x w
  have hy' : ρ y = enV x := hy
  unfold execOp
  simp only [ho, List.map_toArray, List.map_cons, List.map_nil, hy', Sem.run_bind, hr, Result.andThen_ok, Sem.run_pure]
section
variable {hd : Value} {wx : World} {base b : Nat} {sv : Value} {room : Nat} {l : List Z.En} {x : Z.En}
/-- the three turns -/
theorem ap_build {t st : TypeId} (ht : t = 74 ∧ st = 35 ∨ t = 59 ∧ st = 49) {a : Act} {op : Oper} {W : World} (h : ApS t hd wx base b sv room l x .a W) (y : Operand) (ho : op.op = .buildSlice st 1 #[(0, y)]) (hy : a.eval y = .agg (enL x).toArray) :
    Gives Try.prog (execOp a.eval op) W fun u w' => ∃ s', (u = .slice (some ⟨wx.heap.size, 0, none⟩) 1 1 ∧ s' = PK.b) ∧ ApS t hd wx base b sv room l x s' w' := by
  rw [show W = wx from h]
  exact gives_to (exec_oneE ht y ho hy) ⟨.b, ⟨rfl, rfl⟩, rfl⟩
theorem ap_append {t st : TypeId} (ht : t = 74 ∧ st = 35 ∨ t = 59 ∧ st = 49) {a : Act} {op : Oper} {W : World} (h0 : MpAt t hd wx base b sv room l) (hn : l.length ≤ 1000) (hbw : base ≤ wx.heap.size) (h : ApS t hd wx base b sv room l x .b W) (y z : Operand)
    (ho : op.op = .call { callee := .builtin .append, args := #[y, z], argTypes := #[st, st] }) (hy : a.eval y = sv) (hz : a.eval z = .slice (some ⟨wx.heap.size, 0, none⟩) 1 1) :
    Gives Try.prog (execOp a.eval op) W fun u w' => ∃ s', s' = PK.c u ∧ ApS t hd wx base b sv room l x s' w' := by
  rw [show W = _ from h]
  obtain ⟨i0, hi0, hz0, hs0, hb0⟩ : ∃ i, Try.prog.info? t = some i ∧ i.zero = some (.agg #[.int .i64 0, .int .i64 0, .int .i64 0, .int .i64 0, .int .i64 0]) ∧ i.size = 5 ∧ i.bytes = 40 := by
    rcases ht with ⟨rfl, rfl⟩ | ⟨rfl, rfl⟩
    · exact info_parts info_en
    · exact info_parts info_ren
  have hu : Try.prog.underlying st = some (.slice t) := by
    rcases ht with ⟨rfl, rfl⟩ | ⟨rfl, rfl⟩
    · exact Try.underlying35
    · exact Try.underlying49
  refine gives_append y z st ho base t i0 _ 5 40 hu hi0 hz0 hs0 hb0 rfl (by omega) sv l.length (cellsE l) hy (h0.own.alloc _) ⟨wx.heap.size, 0, none⟩ 1 1 (enL x) hz rfl (cell_new wx (enL x) t) (enL_one x) (by unfold maxLen; omega) (by omega) (by simp; omega) ?_
  intro v' w' hown hg _ hloc
  refine ⟨.c v', rfl, by rw [cellsE_snoc, List.length_append]; exact hown, (But.alloc (fun k => sv.ownBlock = some k) wx _).trans (But.of_grown hg) (fun k hk => Or.inl hk), fun k hk => ?_⟩
  rcases hloc with e | e
  · exact Or.inl (by rw [← e]; exact hk)
  · rw [e] at hk
    injection hk with hk
    rw [← hk]
    exact Or.inr (by simp)
theorem ap_store {t st : TypeId} (ht : st = 35 ∨ st = 49) {a : Act} {op : Oper} {W : World} {v : Value} (h0 : MpAt t hd wx base b sv room l) (h : ApS t hd wx base b sv room l x (.c v) W) (y z : Operand)
    (ho : op.op = .store st y z) (hy : a.eval y = .pointer (some ⟨b, 2, none⟩)) (hz : a.eval z = v) :
    Gives Try.prog (execOp a.eval op) W fun _ w' => ∃ s', s' = PK.d v ∧ ApS t hd wx base b sv room l x s' w' := by
  obtain ⟨A, c, rfl⟩ := owns_slice h.1
  have hr : RowAt W b [hd, .int .i64 (room : Int), sv] := h0.row.but h.2.1 (fun e => h0.ne e)
  exact gives_skip (run_store_slice ht y z ho hy hz (hr.cell 2 _ rfl) (hr.frozen 2 (show 2 < 3 by decide))) ⟨.d _, rfl, MpTo.stored h0 h.2.1 h.1 h.2.2⟩
theorem ap_load {t st : TypeId} (ht : st = 35 ∨ st = 49) {ρ : Operand → Value} {op : Oper} {W : World} {L : Nat} {s : PK} (h0 : MpAt t hd wx base b sv room l) (hm : apMay L s L = true) (h : ApS t hd wx base b sv room l x s W) (y : Operand)
    (ho : op.op = .load st y) (hy : ρ y = .pointer (some ⟨b, 2, none⟩)) : (execOp ρ op).run Try.prog W = .ok (.value sv) W := by
  have hc := (h.row h0 hm).cell 2 _ rfl
  unfold execOp
  simp only [ho, hy]
  rcases ht with rfl | rfl
  · go_simp
  · go_simp
end
end Go.Proofs.Ythngbakbiocadaa

/-
  The four words of an entry, set where it lies.
-/
namespace Go.Proofs.Ythngbakbiocadaa
set_option maxRecDepth 100000
open Go.RowKit Go.Maps

theorem cellsE_set : ∀ (l : List Z.En) (i : Nat) (y x : Z.En), l[i]? = some y → y.key = x.key →
    cellsE (l.set i x) = ((((cellsE l).set (i * 5 + 1) (.int .i64 x.a)).set (i * 5 + 2) (.int .i64 x.b)).set (i * 5 + 3) (.int .i64 x.c)).set (i * 5 + 4) (.int .i64 x.d)
  | [], i, y, x, h, _ => by simp at h
  | z :: r, 0, y, x, h, hk => by
    simp at h
    subst h
    unfold cellsE
    rw [List.set_cons_zero, List.flatMap_cons, List.flatMap_cons]
    unfold enL
    rw [← hk]
    rfl
  | z :: r, i + 1, y, x, h, hk => by
    have ih := cellsE_set r i y x (by simpa using h) hk
    unfold cellsE at ih ⊢
    rw [List.set_cons_succ, List.flatMap_cons, List.flatMap_cons, ih]
    unfold enL
    have e1 : (i + 1) * 5 + 1 = (i * 5 + 1) + 1 + 1 + 1 + 1 + 1 := by omega
    have e2 : (i + 1) * 5 + 2 = (i * 5 + 2) + 1 + 1 + 1 + 1 + 1 := by omega
    have e3 : (i + 1) * 5 + 3 = (i * 5 + 3) + 1 + 1 + 1 + 1 + 1 := by omega
    have e4 : (i + 1) * 5 + 4 = (i * 5 + 4) + 1 + 1 + 1 + 1 + 1 := by omega
    rw [e1, e2, e3, e4]
    rfl
theorem own_set {w : World} {base : Nat} {t : TypeId} {g n cap : Nat} {l : List Z.En} {i : Nat} {y x : Z.En} (h : w.ownsRow base t 5 (.slice (some ⟨g, 0, none⟩) n cap) n (cellsE l)) (hy : l[i]? = some y) (hk : y.key = x.key) :
    (w.setCells g (i * 5 + 1) (wordsL x)).ownsRow base t 5 (.slice (some ⟨g, 0, none⟩) n cap) n (cellsE (l.set i x)) := by
  rw [cellsE_set l i y x hy hk]
  unfold wordsL
  simp only [World.setCells]
  exact ((((h.stored _ _).1.stored _ _).1.stored _ _).1.stored _ _).1
theorem MpTo.wordset {t : TypeId} {hd : Value} {w : World} {base b : Nat} {g n cap : Nat} {room : Nat} {l : List Z.En} {i : Nat} {y x : Z.En} (h : MpAt t hd w base b (.slice (some ⟨g, 0, none⟩) n cap) room l) (hn : n = l.length) (hy : l[i]? = some y) (hk : y.key = x.key) :
    MpTo t hd w base b (.slice (some ⟨g, 0, none⟩) n cap) room (l.set i x) (w.setCells g (i * 5 + 1) (wordsL x)) (.slice (some ⟨g, 0, none⟩) n cap) := by
  have hb := But.setCells g (wordsL x) (i * 5 + 1) w
  have hgb : g ≠ b := fun e => h.ne (by rw [e]; rfl)
  subst hn
  refine ⟨⟨h.row.but hb (fun e => hgb e.symm), by rw [List.length_set]; exact own_set h.own hy hk, h.ne, h.ge⟩, hb.mono (fun k hk => Or.inl (Or.inr (by rw [hk]; rfl))), fun k hk => Or.inl hk⟩
theorem own_thereE {w : World} {base : Nat} {t : TypeId} {g n cap : Nat} {l : List Z.En} {i : Nat} (h : w.ownsRow base t 5 (.slice (some ⟨g, 0, none⟩) n cap) n (cellsE l)) (hi : i < n) : w.there g (i * 5 + 1) 4 := by
  obtain ⟨h1, _⟩ := own_cap h
  exact own_there h _ _ (by omega)
theorem wpList_store_words {ops : Array Oper} {rest : List Oper} {op : Oper} {a : Act} {Q : Exit → Act → World → Prop} {w : World} {g o : Nat} {x : Z.En} (hth : w.there g o 4) (hgd : op.guard = none) (y z : Operand) (ho : op.op = .store 60 y z)
    (hx : a.eval y = .pointer (some ⟨g, o, none⟩)) (hy : a.eval z = .agg (wordsL x).toArray) (hn : wpList Try.prog ops Q rest (a.put op.dst undef) (w.setCells g o (wordsL x))) : wpList Try.prog ops Q (op :: rest) a w :=
  wpList_store_mid hgd 60 y z ho g o (wordsL x).toArray hx hy (by simpa [wordsL] using hth) (by rw [valT.info]; rfl) (all_oneCell_toArray (wordsL_one x)) (by simpa using hn)
end Go.Proofs.Ythngbakbiocadaa

/-
  used: the entry that stands there becomes the last, where the order tells so.
-/
namespace Go.Proofs.Ythngbakbiocadaa
set_option maxRecDepth 100000
open Go.RowKit Go.Maps

theorem used_hash (base b : Nat) (sv : Value) (room : Nat) (l : List Z.En) (i : Nat) (w : World) (h : MpAt 74 (kd false) w base b sv room l) :
    Calls Try.prog 34 #[.pointer (some ⟨b, 0, none⟩), .int .i64 (i : Int)] w fun e w' => e = .returned (.tuple #[]) ∧ Below w.heap.size w w' := by
  have hc0 : w.cell? ⟨b, 0, none⟩ = some (.int .i64 1) := h.row.cell 0 _ rfl
  clear h
  go_enter Try.func34, Try.ntmps34
  go_wp2
  refine bodyPost_ret (results_none rfl _ _ _) rfl ?_
  exact ⟨rfl, Below.refl _ _⟩
set_option maxRecDepth 100000 in
set_option maxHeartbeats 2000000 in
theorem used_lru (base b : Nat) (sv : Value) (room : Nat) (l : List Z.En) (i : Nat) (x : Z.En) (w : World) (h : MpAt 74 (kd true) w base b sv room l) (hx : l[i]? = some x) (hn : l.length ≤ 1000) (hbase : base ≤ w.heap.size) :
    Calls Try.prog 34 #[.pointer (some ⟨b, 0, none⟩), .int .i64 (i : Int)] w fun e w' => e = .returned (.tuple #[]) ∧ ∃ sv', MpTo 74 (kd true) w base b sv room (l.eraseIdx i ++ [x]) w' sv' := by
  have hc0 : w.cell? ⟨b, 0, none⟩ = some (.int .i64 2) := h.row.cell 0 _ rfl
  obtain ⟨g, cap, hsv, hnc, hcm, hbg, hgl, hrg⟩ := own_range h.own hx
  subst hsv
  have hi : i < l.length := (List.getElem?_eq_some_iff.1 hx).1
  have hi1 : (i : Int) < (l.length : Int) := by omega
  have hi0 : (0 : Int) ≤ (i : Int) := by omega
  have hc2 := h.row.cell 2 _ rfl
  have HC := Lib.hid hrg
  have H := Lib.hid h
  have HI := Lib.hid hi
  have HL := Lib.hid hn
  have HBS := Lib.hid hbase
  have HN : Hid ((l.eraseIdx i).length ≤ 1000) := Lib.hid (by rw [List.length_eraseIdx, if_pos hi]; omega)
  clear h hx hnc hcm hbg hrg hi hbase
  go_enter Try.func34, Try.ntmps34
  go_upto_region 2 with (first
    | ((with_reducible refine wpList_load_at enT HC.out (enL_length _) rfl (.tmp 15) rfl ?_ ?_); (exact rfl))
    | ((with_reducible refine wpList_store_newrow enT (vs := enL x) (enL_length _) (enL_one _) rfl (.tmp 4) (.tmp 16) rfl rfl ?_ ?_ ?_); (exact rfl); (exact rfl); intro W4 hP hb hz; have S : Hid (InS 74 (kd true) w base b (.slice (some ⟨g, 0, none⟩) l.length cap) room l w.heap.size (enL x) W4 (.slice (some ⟨g, 0, none⟩) l.length cap)) := Lib.hid ⟨MpTo.self H.out hb, hP, by rw [enL_length]; omega, fun hf => by (have := (H.out.foot hf).2; omega), Nat.le_refl _⟩; clear hP hb hz))
  clear hc0 hc2 HC
  go_upto_region 3 with (go_at_call 35; refine (rem_any (kd true) base b _ room l i W4 S.out.way.at_ HI.out HL.out).mono ?_; rintro e w5 ⟨rfl, sv2, hto⟩; replace S := Lib.hid (S.out.turn hto); clear hto)
  obtain ⟨wx, hwx⟩ : ∃ wx, wx = w5.drew := ⟨_, rfl⟩
  have S1 := Lib.hid (S.out.call (Below.refl _ _).drew)
  have HWX := Lib.hid hwx
  rw [← hwx] at S1
  have HM := Lib.hid S1.out.way.at_
  have HR := Lib.hid S1.out.row
  have HFAR := Lib.hid S1.out.far
  have HBW : Hid (base ≤ wx.heap.size) := Lib.hid (Nat.le_trans HBS.out S1.out.way.but.size)
  generalize w.heap.size = B at S1 HR HFAR ⊢
  clear hwx S
  refine wp_region_linm (ApS 74 (kd true) wx base b sv2 room (l.eraseIdx i) x) (apMay 4) (fun i => i == 6 || i == 7 || i == 10) (fun i => [(.pointer (some ⟨b, 0, none⟩)), (.pointer (some ⟨b, 0, none⟩)), (.pointer (some ⟨b, 0, none⟩)), .pointer (some ⟨b, 2, none⟩), sv2, .agg (enL x).toArray, undef, undef, .pointer (some ⟨b, 0, none⟩), .pointer (some ⟨b, 2, none⟩), undef].getD i undef) (PK.a) (by kernel_rfl) (by kernel_rfl) (HWX.out.symm) (fun _ => rfl) ?_
  refine linm_step (i := 0) (d := some 20) (v := (.pointer (some ⟨b, 0, none⟩))) rfl rfl (by kernel_rfl) (by kernel_rfl) rfl rfl (ordm_value (by kernel_rfl) ?_) ?_
  · (intro _ w' _ _; go_simp)
  (try simp only [Act.put, List.setIfInBounds_toArray, List.set_cons_zero, List.set_cons_succ])
  refine linm_step (i := 1) (d := some 21) (v := (.pointer (some ⟨b, 0, none⟩))) rfl rfl (by kernel_rfl) (by kernel_rfl) rfl rfl (ordm_value (by kernel_rfl) ?_) ?_
  · (intro _ w' _ _; go_simp)
  (try simp only [Act.put, List.setIfInBounds_toArray, List.set_cons_zero, List.set_cons_succ])
  refine linm_step (i := 2) (d := some 22) (v := (.pointer (some ⟨b, 0, none⟩))) rfl rfl (by kernel_rfl) (by kernel_rfl) rfl rfl (ordm_value (by kernel_rfl) ?_) ?_
  · (intro _ w' _ _; go_simp)
  (try simp only [Act.put, List.setIfInBounds_toArray, List.set_cons_zero, List.set_cons_succ])
  refine linm_step (i := 3) (d := some 23) (v := .pointer (some ⟨b, 2, none⟩)) rfl rfl (by kernel_rfl) (by kernel_rfl) rfl rfl (ordm_value (by kernel_rfl) ?_) ?_
  · (intro _ w' _ _; go_simp)
  (try simp only [Act.put, List.setIfInBounds_toArray, List.set_cons_zero, List.set_cons_succ])
  refine linm_step (i := 4) (d := some 24) (v := sv2) rfl rfl (by kernel_rfl) (by kernel_rfl) rfl rfl (ordm_value (by kernel_rfl) (fun s w' hm hS => ap_load (Or.inl rfl) HM.out hm hS (.tmp 23) rfl rfl)) ?_
  (try simp only [Act.put, List.setIfInBounds_toArray, List.set_cons_zero, List.set_cons_succ])
  refine linm_step (i := 5) (d := some 25) (v := .agg (enL x).toArray) rfl rfl (by kernel_rfl) (by kernel_rfl) rfl rfl (ordm_value (by kernel_rfl) (fun s w' hm hS => run_ld_row enT (ApS.other HM.out HR.out HFAR.out hS) (enL_length x) (.tmp 4) rfl rfl)) ?_
  (try simp only [Act.put, List.setIfInBounds_toArray, List.set_cons_zero, List.set_cons_succ])
  refine linm_turn (i := 6) (d := some 26) [7, 10] (fun u s => u = .slice (some ⟨wx.heap.size, 0, none⟩) 1 1 ∧ s = PK.b) rfl rfl (by kernel_rfl) (by kernel_rfl) rfl (by kernel_rfl) (apMay_no (fun u s' hu => Or.inl hu.2)) (⟨_, _, rfl, rfl⟩) (by kernel_rfl) (fun W hS => ap_build (Or.inl ⟨rfl, rfl⟩) hS (.tmp 25) rfl rfl) ?_
  rintro u s' ⟨rfl, rfl⟩
  (try simp only [Act.put, List.setIfInBounds_toArray, List.set_cons_zero, List.set_cons_succ])
  refine linm_turn (i := 7) (d := some 27) [10] (fun u s => s = PK.c u) rfl rfl (by kernel_rfl) (by kernel_rfl) rfl (by kernel_rfl) (apMay_no (fun u s' hu => Or.inr ⟨u, hu⟩)) (⟨undef, _, rfl⟩) (by kernel_rfl) (fun W hS => ap_append (Or.inl ⟨rfl, rfl⟩) HM.out HN.out HBW.out hS (.tmp 24) (.tmp 26) rfl rfl rfl) ?_
  rintro v s' rfl
  (try simp only [Act.put, List.setIfInBounds_toArray, List.set_cons_zero, List.set_cons_succ])
  refine linm_step (i := 8) (d := some 28) (v := .pointer (some ⟨b, 0, none⟩)) rfl rfl (by kernel_rfl) (by kernel_rfl) rfl rfl (ordm_value (by kernel_rfl) ?_) ?_
  · (intro _ w' _ _; go_simp)
  (try simp only [Act.put, List.setIfInBounds_toArray, List.set_cons_zero, List.set_cons_succ])
  refine linm_step (i := 9) (d := some 29) (v := .pointer (some ⟨b, 2, none⟩)) rfl rfl (by kernel_rfl) (by kernel_rfl) rfl rfl (ordm_value (by kernel_rfl) ?_) ?_
  · (intro _ w' _ _; go_simp)
  (try simp only [Act.put, List.setIfInBounds_toArray, List.set_cons_zero, List.set_cons_succ])
  refine linm_turn (i := 10) (d := none) [] (fun _ s => s = PK.d v) rfl rfl (by kernel_rfl) (by kernel_rfl) rfl (by kernel_rfl) (apMay_last (by kernel_rfl)) (⟨undef, _, rfl⟩) (by kernel_rfl) (fun W hS => ap_store (Or.inl rfl) HM.out hS (.tmp 29) (.tmp 27) rfl rfl rfl) ?_
  rintro u s' rfl
  (try simp only [Act.put, List.setIfInBounds_toArray, List.set_cons_zero, List.set_cons_succ])
  refine linm_done (by kernel_rfl) ?_
  intro W hS
  have HF := Lib.hid (S1.out.way.trans (show MpTo 74 (kd true) wx base b sv2 room (l.eraseIdx i ++ [x]) W v from hS))
  clear hS
  go_wp2
  go_end0
  exact ⟨rfl, v, HF.out⟩
end Go.Proofs.Ythngbakbiocadaa

/-
  Put: a key's value is set.
-/
namespace Go.Proofs.Ythngbakbiocadaa
set_option maxRecDepth 100000
open Go.RowKit Go.Maps

set_option maxRecDepth 100000 in
set_option maxHeartbeats 2000000 in
theorem put_there_hash (base b : Nat) (sv : Value) (room : Nat) (l : List Z.En) (x : Z.En) (i : Nat) (w : World) (h : MpAt 74 (kd false) w base b sv room l) (hp : Z.pos x.key l = some i) (hn : l.length ≤ 1000) (hbase : base ≤ w.heap.size) :
    Calls Try.prog 25 #[.pointer (some ⟨b, 0, none⟩), .int .i64 x.key, .agg #[.int .i64 x.a, .int .i64 x.b, .int .i64 x.c, .int .i64 x.d]] w fun e w' => e = .returned (.int .i64 0) ∧ ∃ sv', MpTo 74 (kd false) w base b sv room (l.set i x) w' sv' := by
  have S0 : Hid (InS 74 (kd false) w base b sv room l w.heap.size (wordsL x) (w.alloc (.cells #[.int .i64 x.a, .int .i64 x.b, .int .i64 x.c, .int .i64 x.d] 60)) sv) := Lib.hid ⟨MpTo.self h ((Below.refl _ _).alloc (Nat.le_refl _) _), rowAt_new w (wordsL x) _, by rw [wordsL_length]; omega, fun hf => by (have := (h.foot hf).2; omega), Nat.le_refl _⟩
  have HF := Lib.hid (fun w => find_any (kd false) base b sv room l x.key w)
  have HBS := Lib.hid hbase
  obtain ⟨y, hy, hky, _⟩ := Z.pos_some hp
  have hi : i < l.length := (List.getElem?_eq_some_iff.1 hy).1
  have HP : Hid (Z.posI x.key l = (i : Int)) := Lib.hid (by unfold Z.posI; rw [hp])
  have HY := Lib.hid hy
  have HK := Lib.hid hky
  have hi1 : (i : Int) < (l.length : Int) := by omega
  have hi0 : (0 : Int) ≤ (i : Int) := by omega
  have HI := Lib.hid hi
  have HL := Lib.hid hn
  have HX : Hid ((l.set i x)[i]? = some x) := Lib.hid (List.getElem?_set_self hi)
  obtain ⟨g, cap, hsv, _, _, _, _, _⟩ := own_range h.own hy
  subst hsv
  clear h hp hy hky hi hbase hn
  go_enter Try.func25, Try.ntmps25
  go_upto_region 1 with fail
  generalize w.alloc (.cells #[.int .i64 x.a, .int .i64 x.b, .int .i64 x.c, .int .i64 x.d] 60) = W1 at S0 ⊢
  go_upto_region 5 with (go_at_call 32; refine (HF.out _ S0.out.way.at_ HL.out).mono ?_; rw [HP.out]; rintro e w2 ⟨rfl, hb⟩; have S := Lib.hid (S0.out.call hb); clear hb S0)
  have hc2 := S.out.way.at_.row.cell 2 _ rfl
  have HR := Lib.hid S.out.row.range
  have S2 := Lib.hid (S.out.call (Below.refl _ _).drew)
  have HT := Lib.hid (own_thereE S2.out.way.at_.own HI.out)
  have S3 := Lib.hid (S2.out.turn (MpTo.wordset S2.out.way.at_ rfl HY.out HK.out))
  refine ws_region 8 (by kernel_rfl) ?_
  simp only [List.take_succ_cons, List.take_zero, List.drop_succ_cons, List.drop_zero]
  refine ws_take ((.pointer (some ⟨b, 0, none⟩))) (by kernel_rfl) ?_ ?_
  · (go_simp)
  (try simp only [Act.put, List.setIfInBounds_toArray, List.set_cons_zero, List.set_cons_succ])
  refine ws_take ((.pointer (some ⟨b, 0, none⟩))) (by kernel_rfl) ?_ ?_
  · (go_simp)
  (try simp only [Act.put, List.setIfInBounds_toArray, List.set_cons_zero, List.set_cons_succ])
  refine ws_take (.pointer (some ⟨b, 2, none⟩)) (by kernel_rfl) ?_ ?_
  · (go_simp)
  (try simp only [Act.put, List.setIfInBounds_toArray, List.set_cons_zero, List.set_cons_succ])
  refine ws_take (.slice (some ⟨g, 0, none⟩) l.length cap) (by kernel_rfl) ?_ ?_
  · (go_simp)
  (try simp only [Act.put, List.setIfInBounds_toArray, List.set_cons_zero, List.set_cons_succ])
  refine ws_take (.int .i64 (i : Int)) (by kernel_rfl) ?_ ?_
  · (go_simp)
  (try simp only [Act.put, List.setIfInBounds_toArray, List.set_cons_zero, List.set_cons_succ])
  refine ws_at valT (wordsL_length x) (.tmp 5) rfl rfl (by kernel_rfl) (HR.out) ?_
  (try simp only [Act.put, List.setIfInBounds_toArray, List.set_cons_zero, List.set_cons_succ])
  refine ws_take (.pointer (some ⟨g, i * 5, none⟩)) (by kernel_rfl) ?_ ?_
  · (go_simp)
  (try simp only [Act.put, List.setIfInBounds_toArray, List.set_cons_zero, List.set_cons_succ])
  refine ws_take (.pointer (some ⟨g, i * 5 + 1, none⟩)) (by kernel_rfl) ?_ ?_
  · (go_simp)
  (try simp only [Act.put, List.setIfInBounds_toArray, List.set_cons_zero, List.set_cons_succ])
  refine ws_nil ?_
  clear hc2 HR S S2
  refine wpList_store_words (g := g) (o := i * 5 + 1) (x := x) HT.out rfl (.tmp 22) (.tmp 20) rfl rfl rfl ?_
  generalize w2.drew.setCells g (i * 5 + 1) (wordsL x) = w3 at S3 ⊢
  go_wp2_with (go_at_call 34; refine (used_hash base b _ room (l.set i x) i w3 S3.out.way.at_).mono ?_; rintro e w4 ⟨rfl, hb⟩; have S4 := Lib.hid (S3.out.call hb); clear hb)
  refine bodyPost_ret (results_tmp rfl _ _ _) rfl ⟨rfl, _, S4.out.way⟩
set_option maxRecDepth 100000 in
set_option maxHeartbeats 2000000 in
theorem put_there_lru (base b : Nat) (sv : Value) (room : Nat) (l : List Z.En) (x : Z.En) (i : Nat) (w : World) (h : MpAt 74 (kd true) w base b sv room l) (hp : Z.pos x.key l = some i) (hn : l.length ≤ 1000) (hbase : base ≤ w.heap.size) :
    Calls Try.prog 25 #[.pointer (some ⟨b, 0, none⟩), .int .i64 x.key, .agg #[.int .i64 x.a, .int .i64 x.b, .int .i64 x.c, .int .i64 x.d]] w fun e w' => e = .returned (.int .i64 0) ∧ ∃ sv', MpTo 74 (kd true) w base b sv room (l.eraseIdx i ++ [x]) w' sv' := by
  have S0 : Hid (InS 74 (kd true) w base b sv room l w.heap.size (wordsL x) (w.alloc (.cells #[.int .i64 x.a, .int .i64 x.b, .int .i64 x.c, .int .i64 x.d] 60)) sv) := Lib.hid ⟨MpTo.self h ((Below.refl _ _).alloc (Nat.le_refl _) _), rowAt_new w (wordsL x) _, by rw [wordsL_length]; omega, fun hf => by (have := (h.foot hf).2; omega), Nat.le_refl _⟩
  have HF := Lib.hid (fun w => find_any (kd true) base b sv room l x.key w)
  have HBS := Lib.hid hbase
  obtain ⟨y, hy, hky, _⟩ := Z.pos_some hp
  have hi : i < l.length := (List.getElem?_eq_some_iff.1 hy).1
  have HP : Hid (Z.posI x.key l = (i : Int)) := Lib.hid (by unfold Z.posI; rw [hp])
  have HY := Lib.hid hy
  have HK := Lib.hid hky
  have hi1 : (i : Int) < (l.length : Int) := by omega
  have hi0 : (0 : Int) ≤ (i : Int) := by omega
  have HI := Lib.hid hi
  have HL := Lib.hid hn
  have HX : Hid ((l.set i x)[i]? = some x) := Lib.hid (List.getElem?_set_self hi)
  obtain ⟨g, cap, hsv, _, _, _, _, _⟩ := own_range h.own hy
  subst hsv
  clear h hp hy hky hi hbase hn
  go_enter Try.func25, Try.ntmps25
  go_upto_region 1 with fail
  generalize w.alloc (.cells #[.int .i64 x.a, .int .i64 x.b, .int .i64 x.c, .int .i64 x.d] 60) = W1 at S0 ⊢
  go_upto_region 5 with (go_at_call 32; refine (HF.out _ S0.out.way.at_ HL.out).mono ?_; rw [HP.out]; rintro e w2 ⟨rfl, hb⟩; have S := Lib.hid (S0.out.call hb); clear hb S0)
  have hc2 := S.out.way.at_.row.cell 2 _ rfl
  have HR := Lib.hid S.out.row.range
  have S2 := Lib.hid (S.out.call (Below.refl _ _).drew)
  have HT := Lib.hid (own_thereE S2.out.way.at_.own HI.out)
  have S3 := Lib.hid (S2.out.turn (MpTo.wordset S2.out.way.at_ rfl HY.out HK.out))
  refine ws_region 8 (by kernel_rfl) ?_
  simp only [List.take_succ_cons, List.take_zero, List.drop_succ_cons, List.drop_zero]
  refine ws_take ((.pointer (some ⟨b, 0, none⟩))) (by kernel_rfl) ?_ ?_
  · (go_simp)
  (try simp only [Act.put, List.setIfInBounds_toArray, List.set_cons_zero, List.set_cons_succ])
  refine ws_take ((.pointer (some ⟨b, 0, none⟩))) (by kernel_rfl) ?_ ?_
  · (go_simp)
  (try simp only [Act.put, List.setIfInBounds_toArray, List.set_cons_zero, List.set_cons_succ])
  refine ws_take (.pointer (some ⟨b, 2, none⟩)) (by kernel_rfl) ?_ ?_
  · (go_simp)
  (try simp only [Act.put, List.setIfInBounds_toArray, List.set_cons_zero, List.set_cons_succ])
  refine ws_take (.slice (some ⟨g, 0, none⟩) l.length cap) (by kernel_rfl) ?_ ?_
  · (go_simp)
  (try simp only [Act.put, List.setIfInBounds_toArray, List.set_cons_zero, List.set_cons_succ])
  refine ws_take (.int .i64 (i : Int)) (by kernel_rfl) ?_ ?_
  · (go_simp)
  (try simp only [Act.put, List.setIfInBounds_toArray, List.set_cons_zero, List.set_cons_succ])
  refine ws_at valT (wordsL_length x) (.tmp 5) rfl rfl (by kernel_rfl) (HR.out) ?_
  (try simp only [Act.put, List.setIfInBounds_toArray, List.set_cons_zero, List.set_cons_succ])
  refine ws_take (.pointer (some ⟨g, i * 5, none⟩)) (by kernel_rfl) ?_ ?_
  · (go_simp)
  (try simp only [Act.put, List.setIfInBounds_toArray, List.set_cons_zero, List.set_cons_succ])
  refine ws_take (.pointer (some ⟨g, i * 5 + 1, none⟩)) (by kernel_rfl) ?_ ?_
  · (go_simp)
  (try simp only [Act.put, List.setIfInBounds_toArray, List.set_cons_zero, List.set_cons_succ])
  refine ws_nil ?_
  clear hc2 HR S S2
  refine wpList_store_words (g := g) (o := i * 5 + 1) (x := x) HT.out rfl (.tmp 22) (.tmp 20) rfl rfl rfl ?_
  generalize w2.drew.setCells g (i * 5 + 1) (wordsL x) = w3 at S3 ⊢
  go_wp2_with (go_at_call 34; refine (used_lru base b _ room (l.set i x) i x w3 S3.out.way.at_ HX.out (by rw [List.length_set]; exact HL.out) (Nat.le_trans HBS.out S3.out.way.but.size)).mono ?_; rintro e w4 ⟨rfl, sv4, hto⟩; have S4 := Lib.hid (S3.out.turn hto); clear hto)
  refine bodyPost_ret (results_tmp rfl _ _ _) rfl ⟨rfl, sv4, ?_⟩
  have := S4.out.way
  rwa [Z.set_erase] at this
end Go.Proofs.Ythngbakbiocadaa
