/-
  A region that draws its order, gone through in ONE order, as in Hlin; with two things more: an operation need not give its value in kinds that come behind it ('may'), and where all that is ready turns the kind, all of it is taken ('fork').
-/
import Derived.Test.YtkomehplcacbcaaHlin
namespace Go.Proofs.Ytkomehplcacbcaa
open Go.RowKit

section
variable {P : Program} {ops : Array Oper} {Q : Exit → Act → World → Prop} {md : Region.Mode} {σ : Type} {S : σ → World → Prop} {may : σ → Nat → Bool} {sp : Nat → Bool} {vals : Nat → Value}

def OrdM (P : Program) (ops : Array Oper) (S : σ → World → Prop) (may : σ → Nat → Bool) (i : Nat) (o : Oper) (v : Value) (a : Act) : Prop :=
  (Region.wanted o (yielded ops a.tmps) = true ∧ ∀ s w, may s i = true → S s w → Gives P (execOp a.eval o) w fun u w' => u = v ∧ S s w') ∨
  (Region.wanted o (yielded ops a.tmps) = false ∧ v = undef)
theorem OrdM.put {i : Nat} {oi oj : Oper} {v u : Value} {a : Act} (hs : ∀ cs b, oi.op ≠ .select cs b) (h : ∀ d, oj.dst = some d → d ∉ oi.looksAt ops) (hy : OrdM P ops S may i oi v a) : OrdM P ops S may i oi v (a.put oj.dst u) := by
  unfold OrdM at *
  rw [execOp_put oi hs a oj.dst u h, wanted_put oi a oj.dst u h]
  exact hy
theorem OrdM.unput {i : Nat} {oi oj : Oper} {v u : Value} {a : Act} (hs : ∀ cs b, oj.op ≠ .select cs b) (h : ∀ d, oi.dst = some d → d ∉ oj.looksAt ops) (hy : OrdM P ops S may i oj v (a.put oi.dst u)) : OrdM P ops S may i oj v a := by
  unfold OrdM at *
  rw [execOp_put oj hs a oi.dst u h, wanted_put oj a oi.dst u h] at hy
  exact hy
/-- whatever can't come any more behind a turn was waited for by it -/
def Lost (md : Region.Mode) (ops : Array Oper) (may : σ → Nat → Bool) (s : σ) (i : Nat) (N : Value → σ → Prop) : Prop :=
  ∀ u s', N u s' → ∀ k, may s' k = false → k = i ∨ may s k = false ∨ ∃ o, ops[i]? = some o ∧ ∃ e ∈ o.after, Region.binds md e = true ∧ e.on = k
/-- one order, step by step -/
inductive LinM (P : Program) (md : Region.Mode) (ops : Array Oper) (Q : Exit → Act → World → Prop) (S : σ → World → Prop) (may : σ → Nat → Bool) (sp : Nat → Bool) (vals : Nat → Value) : Nat → σ → Array Bool → Act → Prop
  | done {n : Nat} {s : σ} {listed : Array Bool} {a : Act} (hr : Region.ready md ops listed = []) (hQ : ∀ w, S s w → Q .normal a w) : LinM P md ops Q S may sp vals n s listed a
  | ord {n : Nat} {s : σ} {listed : Array Bool} {a : Act} (i : Nat) (o : Oper) (hi : ops[i]? = some o) (hr : i ∈ Region.ready md ops listed) (hf : FreeAt md ops listed i o) (hsp : sp i = false)
      (hy : OrdM P ops S may i o (vals i) a) (h : LinM P md ops Q S may sp vals n s (listed.setIfInBounds i true) (a.put o.dst (vals i))) : LinM P md ops Q S may sp vals (n + 1) s listed a
  | spec {n : Nat} {s : σ} {listed : Array Bool} {a : Act} (i : Nat) (o : Oper) (N : Value → σ → Prop) (hi : ops[i]? = some o) (hr : i ∈ Region.ready md ops listed) (hf : FreeAt md ops listed i o) (hsp : sp i = true)
      (hw : ∃ D : Nat → Bool, WaitsFor md ops sp listed i D) (hm : Lost md ops may s i N)
      (hN : ∃ u s', N u s') (hy : SpecAt P ops S s o a N) (h : ∀ u s', N u s' → LinM P md ops Q S may sp vals n s' (listed.setIfInBounds i true) (a.put o.dst u)) : LinM P md ops Q S may sp vals (n + 1) s listed a
  | fork {n : Nat} {s : σ} {listed : Array Bool} {a : Act} (N : Nat → Value → σ → Prop) (hall : ∀ j ∈ Region.ready md ops listed, sp j = true) (hne : Region.ready md ops listed ≠ []) (hm : ∀ j ∈ Region.ready md ops listed, Lost md ops may s j (N j))
      (hy : ∀ j o, j ∈ Region.ready md ops listed → ops[j]? = some o → SpecAt P ops S s o a (N j)) (h : ∀ j o u s', j ∈ Region.ready md ops listed → ops[j]? = some o → N j u s' → LinM P md ops Q S may sp vals n s' (listed.setIfInBounds j true) (a.put o.dst u)) : LinM P md ops Q S may sp vals (n + 1) s listed a

variable (hsel : ∀ (j : Nat) (o : Oper) cs b, ops[j]? = some o → o.op ≠ .select cs b)
include hsel

theorem LinM.first : ∀ (n : Nat) (s : σ) (listed : Array Bool) (a : Act) (j : Nat) (oj : Oper), LinM P md ops Q S may sp vals n s listed a → j ∈ Region.ready md ops listed → ops[j]? = some oj → sp j = false →
    OrdM P ops S may j oj (vals j) a ∧ ∃ m, n = m + 1 ∧ LinM P md ops Q S may sp vals m s (listed.setIfInBounds j true) (a.put oj.dst (vals j)) := by
  intro n
  induction n with
  | zero =>
    intro s listed a j oj hl hj _ _
    cases hl with
    | done hr _ => rw [hr] at hj; cases hj
  | succ n ih =>
    intro s listed a j oj hl hj hoj hsj
    cases hl with
    | done hr _ => rw [hr] at hj; cases hj
    | ord i o hi hr hf hsp hy h =>
      by_cases hji : j = i
      · subst hji
        rw [hi] at hoj
        injection hoj with hoj
        subst hoj
        exact ⟨hy, n, rfl, h⟩
      · obtain ⟨h1, m, rfl, h2⟩ := ih _ _ _ j oj h (ready_mono hj hji) hoj hsj
        obtain ⟨a1, a2, a3⟩ := Oper.apart_spec (hf j oj hoj hji (mem_ready.1 hj).1 (waits_not hr hj hoj))
        refine ⟨h1.unput (fun cs b => hsel j oj cs b hoj) a1, m + 1, rfl, LinM.ord i o hi (ready_mono hr (Ne.symm hji)) hf.set hsp (hy.put (fun cs b => hsel i o cs b hi) a3) ?_⟩
        rw [← Act.put_comm a _ _ a2, Array.setIfInBounds_comm _ _ hji]
        exact h2
    | spec i o N hi hr hf hsp hw hm hN hy h =>
      have hji : j ≠ i := fun e => by rw [e, hsp] at hsj; cases hsj
      obtain ⟨a1, a2, a3⟩ := Oper.apart_spec (hf j oj hoj hji (mem_ready.1 hj).1 (waits_not hr hj hoj))
      obtain ⟨u0, s0, hN0⟩ := hN
      obtain ⟨h1, m, rfl, _⟩ := ih _ _ _ j oj (h u0 s0 hN0) (ready_mono hj hji) hoj hsj
      refine ⟨h1.unput (fun cs b => hsel j oj cs b hoj) a1, m + 1, rfl, LinM.spec i o N hi (ready_mono hr (Ne.symm hji)) hf.set hsp (hw.imp fun _ hW => hW.set hr hj) hm ⟨u0, s0, hN0⟩ (hy.put (fun cs b => hsel i o cs b hi) a3) ?_⟩
      intro u s' hus
      obtain ⟨_, m', hm', h2⟩ := ih _ _ _ j oj (h u s' hus) (ready_mono hj hji) hoj hsj
      obtain rfl : m = m' := by omega
      rw [← Act.put_comm a _ _ a2, Array.setIfInBounds_comm _ _ hji]
      exact h2
    | fork N hall =>
      rw [hall j hj] at hsj
      cases hsj

theorem LinM.turns : ∀ (n : Nat) (s : σ) (listed : Array Bool) (a : Act) (j : Nat) (oj : Oper), LinM P md ops Q S may sp vals n s listed a → j ∈ Region.ready md ops listed → ops[j]? = some oj → sp j = true →
    ∃ N, SpecAt P ops S s oj a N ∧ Lost md ops may s j N ∧ ∃ m, n = m + 1 ∧ ∀ u s', N u s' → LinM P md ops Q S may sp vals m s' (listed.setIfInBounds j true) (a.put oj.dst u) := by
  intro n
  induction n with
  | zero =>
    intro s listed a j oj hl hj _ _
    cases hl with
    | done hr _ => rw [hr] at hj; cases hj
  | succ n ih =>
    intro s listed a j oj hl hj hoj hsj
    cases hl with
    | done hr _ => rw [hr] at hj; cases hj
    | ord i o hi hr hf hsp hy h =>
      have hji : j ≠ i := fun e => by rw [e, hsp] at hsj; cases hsj
      obtain ⟨N, h1, h1m, m, rfl, h2⟩ := ih _ _ _ j oj h (ready_mono hj hji) hoj hsj
      obtain ⟨a1, a2, a3⟩ := Oper.apart_spec (hf j oj hoj hji (mem_ready.1 hj).1 (waits_not hr hj hoj))
      refine ⟨N, h1.unput (fun cs b => hsel j oj cs b hoj) a1, h1m, m + 1, rfl, fun u s' hus => LinM.ord i o hi (ready_mono hr (Ne.symm hji)) hf.set hsp (hy.put (fun cs b => hsel i o cs b hi) a3) ?_⟩
      rw [← Act.put_comm a _ _ a2, Array.setIfInBounds_comm _ _ hji]
      exact h2 u s' hus
    | spec i o N hi hr hf hsp hw hm hN hy h =>
      by_cases hji : j = i
      · subst hji
        rw [hi] at hoj
        injection hoj with hoj
        subst hoj
        exact ⟨N, hy, hm, n, rfl, h⟩
      · obtain ⟨D, hW⟩ := hw
        have h1 := hW.1 j oj hoj hsj hji (mem_ready.1 hj).1
        rw [hW.not_ready hr hj] at h1
        cases h1
    | fork N hall hne hm hy h => exact ⟨N j, hy j oj hj hoj, hm j hj, n, rfl, fun u s' hu => h j oj u s' hj hoj hu⟩

theorem LinM.any : ∀ (n : Nat) (s : σ) (listed : Array Bool) (a : Act) (w : World), LinM P md ops Q S may sp vals n s listed a → (∀ k, may s k = false → listed.getD k true = true) → S s w → wpAny P md ops Q n listed a w := by
  intro n
  induction n with
  | zero =>
    intro s listed a w hl _ hS
    cases hl with
    | done hr hQ => exact ⟨hr, hQ w hS⟩
  | succ n ih =>
    intro s listed a w hl hI hS
    refine ⟨fun h => ?_, fun j hj => ?_⟩
    · cases hl with
      | done hr hQ => exact hQ w hS
      | ord i o hi hr => rw [h] at hr; cases hr
      | spec i o N hi hr => rw [h] at hr; cases hr
      | fork N hall hne => exact absurd h hne
    · obtain ⟨hun, oj, hoj, hpre⟩ := mem_ready.1 hj
      have hset : ∀ k, listed.getD k true = true → (listed.setIfInBounds j true).getD k true = true := by
        intro k hk
        by_cases hjk : j = k
        · subst hjk
          rw [hk] at hun
          cases hun
        · rw [getD_set_ne true hjk]; exact hk
      have hself : (listed.setIfInBounds j true).getD j true = true := by
        rcases Nat.lt_or_ge j listed.size with h' | h'
        · simp [h']
        · simp [Array.getElem?_eq_none h']
      unfold wpOp
      simp only [hoj]
      cases hsj : sp j with
      | false =>
        obtain ⟨h1, m, hm, h2⟩ := LinM.first hsel _ _ _ _ j oj hl hj hoj hsj
        obtain rfl : n = m := by omega
        have hI' : ∀ k, may s k = false → (listed.setIfInBounds j true).getD k true = true := fun k hk => hset k (hI k hk)
        rcases h1 with ⟨hw, hg⟩ | ⟨hw, hv⟩
        · rw [if_pos hw]
          have hmj : may s j = true := by
            cases hmm : may s j with
            | true => rfl
            | false => rw [hI j hmm] at hun; cases hun
          refine Or.inl ((hg s w hmj hS).wp fun u w' ⟨hu, hS'⟩ => ?_)
          subst hu
          exact ih _ _ _ _ h2 hI' hS'
        · rw [if_neg (by rw [hw]; exact Bool.false_ne_true)]
          rw [hv] at h2
          exact ih _ _ _ _ h2 hI' hS
      | true =>
        obtain ⟨N, ⟨hw, hg⟩, hL, m, hm, h2⟩ := LinM.turns hsel _ _ _ _ j oj hl hj hoj hsj
        obtain rfl : n = m := by omega
        rw [if_pos hw]
        refine Or.inl ((hg w hS).wp fun u w' ⟨s', hu, hS'⟩ => ih _ _ _ _ (h2 u s' hu) (fun k hk => ?_) hS')
        rcases hL u s' hu k hk with rfl | h3 | ⟨o, ho, e, he, hb, hon⟩
        · exact hself
        · exact hset k (hI k h3)
        · rw [hoj] at ho
          injection ho with ho
          subst ho
          have := hpre e he hb
          rw [hon] at this
          refine hset k ?_
          rcases Nat.lt_or_ge k listed.size with c | c
          · simp [c] at this ⊢; exact this
          · simp [Array.getElem?_eq_none c]
end

/-! ### the moves of a walk -/
section
variable {P : Program} {ops : Array Oper} {Q : Exit → Act → World → Prop} {σ : Type} {S : σ → World → Prop} {may : σ → Nat → Bool} {sp : Nat → Bool} {vals : Nat → Value}
theorem wp_region_linm {id : Nat} {a : Act} {w : World} (S : σ → World → Prop) (may : σ → Nat → Bool) (sp : Nat → Bool) (vals : Nat → Value) (s : σ) (hm : P.follows .mixedOrders = true) (hs : Region.noSelect ops = true) (hS : S s w.drew) (hI : ∀ k, may s k = true)
    (h : LinM P .any ops Q S may sp vals ops.size s (Array.replicate ops.size false) a) : (Code.region id ops true).wp P Q a w :=
  wp_region_any hm (LinM.any (Region.noSelect_spec hs) _ _ _ _ _ h (fun k hk => by rw [hI k] at hk; cases hk) hS)
theorem linm_step {n : Nat} {s : σ} {listed : Array Bool} {a : Act} {i : Nat} {o : Oper} {v : Value} {d : Option Tmp} (hi : ops[i]? = some o) (hd : o.dst = d) (hr : (Region.ready .any ops listed).contains i = true) (hf : Region.free .any ops listed i = true) (hsp : sp i = false) (hv : vals i = v)
    (hy : OrdM P ops S may i o v a) (h : LinM P .any ops Q S may sp vals n s (listed.setIfInBounds i true) (a.put d v)) : LinM P .any ops Q S may sp vals (n + 1) s listed a :=
  LinM.ord i o hi (by simpa using hr) (Region.free_spec hi hf) hsp (hv ▸ hy) (by rw [hd, hv]; exact h)
/-- does this one wait for that one itself? -/
def predB (ops : Array Oper) (i k : Nat) : Bool := match ops[i]? with
  | some o => o.after.any fun e => Region.binds .any e && e.on == k
  | none => false
theorem predB_spec {i k : Nat} (h : predB ops i k = true) : ∃ o, ops[i]? = some o ∧ ∃ e ∈ o.after, Region.binds .any e = true ∧ e.on = k := by
  unfold predB at h
  cases ho : ops[i]? with
  | none => rw [ho] at h; cases h
  | some o =>
    rw [ho] at h
    obtain ⟨e, he, hb⟩ := Array.any_eq_true'.1 h
    simp only [Bool.and_eq_true, beq_iff_eq] at hb
    exact ⟨o, rfl, e, he, hb.1, hb.2⟩
/-- nothing is lost by this turn -/
theorem lost_no {s : σ} {i : Nat} {N : Value → σ → Prop} (h : ∀ u s', N u s' → ∀ k, may s' k = true) : Lost .any ops may s i N := fun u s' hu k hk => by
  rw [h u s' hu k] at hk; cases hk
/-- what is lost was waited for -/
theorem lost_those {s : σ} {i : Nat} {N : Value → σ → Prop} (l : List Nat) (hl : l.all (predB ops i) = true) (h : ∀ u s', N u s' → ∀ k, may s' k = false → k ∈ l) : Lost .any ops may s i N := fun u s' hu k hk =>
  Or.inr (Or.inr (predB_spec (List.all_eq_true.1 hl k (h u s' hu k hk))))
theorem linm_turn {n : Nat} {s : σ} {listed : Array Bool} {a : Act} {i : Nat} {o : Oper} {d : Option Tmp} (D : List Nat) (N : Value → σ → Prop) (hi : ops[i]? = some o) (hd : o.dst = d) (hr : (Region.ready .any ops listed).contains i = true) (hf : Region.free .any ops listed i = true) (hsp : sp i = true)
    (hw : waitD ops sp listed i D = true) (hm : Lost .any ops may s i N) (hN : ∃ u s', N u s') (hwa : Region.wanted o (yielded ops a.tmps) = true) (hy : ∀ w, S s w → Gives P (execOp a.eval o) w fun u w' => ∃ s', N u s' ∧ S s' w')
    (h : ∀ u s', N u s' → LinM P .any ops Q S may sp vals n s' (listed.setIfInBounds i true) (a.put d u)) : LinM P .any ops Q S may sp vals (n + 1) s listed a :=
  LinM.spec i o N hi (by simpa using hr) (Region.free_spec hi hf) hsp ⟨_, waitD_spec hw⟩ hm hN ⟨hwa, hy⟩ (by rw [hd]; exact h)
/-- two turns that are ready at once -/
theorem linm_fork2 {n : Nat} {s : σ} {listed : Array Bool} {a : Act} (i j : Nat) {oi oj : Oper} {di dj : Option Tmp} (Ni Nj : Value → σ → Prop) (hr : Region.ready .any ops listed = [i, j]) (hij : i ≠ j) (hi : ops[i]? = some oi) (hj : ops[j]? = some oj) (hdi : oi.dst = di) (hdj : oj.dst = dj) (hsi : sp i = true) (hsj : sp j = true)
    (hmi : Lost .any ops may s i Ni) (hmj : Lost .any ops may s j Nj)
    (hwi : Region.wanted oi (yielded ops a.tmps) = true) (hyi : ∀ w, S s w → Gives P (execOp a.eval oi) w fun u w' => ∃ s', Ni u s' ∧ S s' w')
    (hwj : Region.wanted oj (yielded ops a.tmps) = true) (hyj : ∀ w, S s w → Gives P (execOp a.eval oj) w fun u w' => ∃ s', Nj u s' ∧ S s' w')
    (h1 : ∀ u s', Ni u s' → LinM P .any ops Q S may sp vals n s' (listed.setIfInBounds i true) (a.put di u))
    (h2 : ∀ u s', Nj u s' → LinM P .any ops Q S may sp vals n s' (listed.setIfInBounds j true) (a.put dj u)) : LinM P .any ops Q S may sp vals (n + 1) s listed a := by
  have hcase : ∀ k, k ∈ Region.ready .any ops listed → k = i ∨ k = j := fun k hk => by rw [hr] at hk; simpa using hk
  refine LinM.fork (fun k u s' => (k = i ∧ Ni u s') ∨ (k = j ∧ Nj u s')) ?_ (by rw [hr]; simp) ?_ ?_ ?_
  · intro k hk
    rcases hcase k hk with rfl | rfl
    · exact hsi
    · exact hsj
  · intro k hk u s' hu
    rcases hu with ⟨rfl, hu⟩ | ⟨rfl, hu⟩
    · exact hmi u s' hu
    · exact hmj u s' hu
  · intro k o hk ho
    rcases hcase k hk with rfl | rfl
    · rw [hi] at ho
      injection ho with ho
      subst ho
      exact ⟨hwi, fun w hS => (hyi w hS).mono fun u w' ⟨s', hu, hS'⟩ => ⟨s', Or.inl ⟨rfl, hu⟩, hS'⟩⟩
    · rw [hj] at ho
      injection ho with ho
      subst ho
      exact ⟨hwj, fun w hS => (hyj w hS).mono fun u w' ⟨s', hu, hS'⟩ => ⟨s', Or.inr ⟨rfl, hu⟩, hS'⟩⟩
  · intro k o u s' hk ho hu
    rcases hu with ⟨rfl, hu⟩ | ⟨rfl, hu⟩
    · rw [hi] at ho
      injection ho with ho
      subst ho
      rw [hdi]
      exact h1 u s' hu
    · rw [hj] at ho
      injection ho with ho
      subst ho
      rw [hdj]
      exact h2 u s' hu
/-- one turn, where nothing else is ready -/
theorem linm_sole {n : Nat} {s : σ} {listed : Array Bool} {a : Act} (i : Nat) {oi : Oper} {di : Option Tmp} (Ni : Value → σ → Prop) (hr : Region.ready .any ops listed = [i]) (hi : ops[i]? = some oi) (hdi : oi.dst = di) (hsi : sp i = true)
    (hmi : Lost .any ops may s i Ni)
    (hwi : Region.wanted oi (yielded ops a.tmps) = true) (hyi : ∀ w, S s w → Gives P (execOp a.eval oi) w fun u w' => ∃ s', Ni u s' ∧ S s' w')
    (h1 : ∀ u s', Ni u s' → LinM P .any ops Q S may sp vals n s' (listed.setIfInBounds i true) (a.put di u)) : LinM P .any ops Q S may sp vals (n + 1) s listed a := by
  have hcase : ∀ k, k ∈ Region.ready .any ops listed → k = i := fun k hk => by rw [hr] at hk; simpa using hk
  refine LinM.fork (fun k u s' => Ni u s') ?_ (by rw [hr]; simp) ?_ ?_ ?_
  · intro k hk
    rw [hcase k hk]; exact hsi
  · intro k hk u s' hu
    rw [hcase k hk]; exact hmi u s' hu
  · intro k o hk ho
    obtain rfl := hcase k hk
    rw [hi] at ho
    injection ho with ho
    subst ho
    exact ⟨hwi, hyi⟩
  · intro k o u s' hk ho hu
    obtain rfl := hcase k hk
    rw [hi] at ho
    injection ho with ho
    subst ho
    rw [hdi]
    exact h1 u s' hu
theorem linm_done {n : Nat} {s : σ} {listed : Array Bool} {a : Act} (hr : Region.ready .any ops listed = []) (hQ : ∀ w, S s w → Q .normal a w) : LinM P .any ops Q S may sp vals n s listed a := LinM.done hr hQ
theorem ordm_value {i : Nat} {o : Oper} {v : Value} {a : Act} (hw : Region.wanted o (yielded ops a.tmps) = true) (h : ∀ s w, may s i = true → S s w → (execOp a.eval o).run P w = .ok (.value v) w) : OrdM P ops S may i o v a :=
  Or.inl ⟨hw, fun s w hM hS => gives_value (h s w hM hS) ⟨rfl, hS⟩⟩
theorem ordm_skip {i : Nat} {o : Oper} {a : Act} (hw : Region.wanted o (yielded ops a.tmps) = false) : OrdM P ops S may i o undef a := Or.inr ⟨hw, rfl⟩
theorem ordm_call {i : Nat} {o : Oper} {v : Value} {a : Act} {f : FuncId} {args : Array Value} (hw : Region.wanted o (yielded ops a.tmps) = true) (hop : ∀ w, (execOp a.eval o).run P w = .ok (.enter f args) w)
    (h : ∀ s w, may s i = true → S s w → Calls P f args w fun e w' => e = .returned v ∧ S s w') : OrdM P ops S may i o v a :=
  Or.inl ⟨hw, fun s w hM hS => gives_call (hop w) ((h s w hM hS).mono fun _ _ ⟨he, hS'⟩ => ⟨v, he, rfl, hS'⟩)⟩
end
end Go.Proofs.Ytkomehplcacbcaa
