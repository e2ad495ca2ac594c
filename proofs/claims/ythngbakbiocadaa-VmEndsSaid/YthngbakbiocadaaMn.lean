/-
  A region that draws its order, gone through in ONE order, as in Hlin; the operations that turn the kind may end in a panic besides, which all that comes behind bears.
-/
import Derived.Test.YthngbakbiocadaaMb
import Derived.Test.YthngbakbiocadaaMm
import Derived.Test.YthngbakbiocadaaMh

namespace Go.Proofs.Ythngbakbiocadaa
set_option maxRecDepth 100000
open Go.RowKit

section
variable {P : Program} {ops : Array Oper} {Q : Exit → Act → World → Prop} {md : Region.Mode} {σ : Type} {S : σ → World → Prop} {sp : Nat → Bool} {vals : Nat → Value} {B : List PanicEntry → World → Prop}

theorem put_defers (a : Act) (d : Option Tmp) (v : Value) : (a.put d v).defers = a.defers := by
  cases d <;> rfl
/-- what an operation gives, and the world behind it; or how it ends -/
def GivesP (P : Program) (m : Sem Next) (w : World) (R : Value → World → Prop) (B : List PanicEntry → World → Prop) : Prop :=
  match m.run P w with
  | .ok (.value u) w' => R u w'
  | .ok .skip w' => R undef w'
  | .ok (.enter f args) w' => Calls P f args w' fun e w'' => (∃ u, e = .returned u ∧ R u w'') ∨ (∃ ch, e = .panicked ch ∧ B ch w'')
  | _ => False
theorem GivesP.wp {o : Oper} {a : Act} {w : World} {R : Value → World → Prop} {K : Act → World → Prop} (h : GivesP P (execOp a.eval o) w R B) (hK : ∀ u w', R u w' → K (a.put o.dst u) w') (hB : ∀ ch w', B ch w' → Q (.panic ch) a w') : Oper.wp P o a w K Q := by
  unfold GivesP at h
  unfold Oper.wp
  generalize (execOp a.eval o).run P w = r at *
  cases r with
  | halt x w' => exact h.elim
  | ok n w' =>
    cases n <;> simp only [Oper.upon] at h ⊢
    case value u => exact hK _ _ h
    case skip => exact hK _ _ h
    case enter f args =>
      refine h.mono fun e w'' hh => ?_
      rcases hh with ⟨u, hu, hR⟩ | ⟨ch, hc, hb⟩
      · subst hu
        exact hK _ _ hR
      · subst hc
        exact hB _ _ hb
theorem givesP_of {m : Sem Next} {w : World} {R : Value → World → Prop} (h : Gives P m w R) : GivesP P m w R B := by
  unfold Gives at h
  unfold GivesP
  generalize m.run P w = r at *
  cases r with
  | halt x w' => exact h
  | ok n w' =>
    cases n <;> simp only at h ⊢
    case value u => exact h
    case skip => exact h
    case enter f args => exact h.mono fun e w'' hh => Or.inl hh
theorem givesP_call {m : Sem Next} {w : World} {R : Value → World → Prop} {f : FuncId} {args : Array Value} (h : m.run P w = .ok (.enter f args) w) (hR : Calls P f args w fun e w'' => (∃ u, e = .returned u ∧ R u w'') ∨ (∃ ch, e = .panicked ch ∧ B ch w'')) : GivesP P m w R B := by
  unfold GivesP; rw [h]; exact hR
/-- in every world of this kind: a value and a kind that go together, or an end -/
def SpecAtP (P : Program) (ops : Array Oper) (S : σ → World → Prop) (B : List PanicEntry → World → Prop) (s : σ) (o : Oper) (a : Act) (N : Value → σ → Prop) : Prop :=
  Region.wanted o (yielded ops a.tmps) = true ∧ ∀ w, S s w → GivesP P (execOp a.eval o) w (fun u w' => ∃ s', N u s' ∧ S s' w') B
theorem SpecAtP.put {oi oj : Oper} {s : σ} {u : Value} {N : Value → σ → Prop} {a : Act} (hs : ∀ cs b, oi.op ≠ .select cs b) (h : ∀ d, oj.dst = some d → d ∉ oi.looksAt ops) (hy : SpecAtP P ops S B s oi a N) : SpecAtP P ops S B s oi (a.put oj.dst u) N := by
  unfold SpecAtP at *
  rw [execOp_put oi hs a oj.dst u h, wanted_put oi a oj.dst u h]
  exact hy
theorem SpecAtP.unput {oi oj : Oper} {s : σ} {u : Value} {N : Value → σ → Prop} {a : Act} (hs : ∀ cs b, oj.op ≠ .select cs b) (h : ∀ d, oi.dst = some d → d ∉ oj.looksAt ops) (hy : SpecAtP P ops S B s oj (a.put oi.dst u) N) : SpecAtP P ops S B s oj a N := by
  unfold SpecAtP at *
  rw [execOp_put oj hs a oi.dst u h, wanted_put oj a oi.dst u h] at hy
  exact hy
/-- does this one wait for all others? -/
def lastB (ops : Array Oper) (i : Nat) : Bool := (List.range ops.size).all fun k => k == i || match ops[i]? with
  | some o => o.after.any fun e => Region.binds .any e && e.on == k
  | none => false
def LastOp (md : Region.Mode) (ops : Array Oper) (i : Nat) : Prop := ∀ listed, i ∈ Region.ready md ops listed → ∀ k, k < ops.size → k ≠ i → listed.getD k true = true
/-- one order, step by step -/
inductive LinP (P : Program) (md : Region.Mode) (ops : Array Oper) (Q : Exit → Act → World → Prop) (S : σ → World → Prop) (B : List PanicEntry → World → Prop) (sp : Nat → Bool) (vals : Nat → Value) : Nat → σ → Array Bool → Act → Prop
  | done {n : Nat} {s : σ} {listed : Array Bool} {a : Act} (hr : Region.ready md ops listed = []) (hQ : ∀ w, S s w → Q .normal a w) : LinP P md ops Q S B sp vals n s listed a
  | ord {n : Nat} {s : σ} {listed : Array Bool} {a : Act} (i : Nat) (o : Oper) (hi : ops[i]? = some o) (hr : i ∈ Region.ready md ops listed) (hf : FreeAt md ops listed i o) (hsp : sp i = false)
      (hy : OrdAt P ops S o (vals i) a) (h : LinP P md ops Q S B sp vals n s (listed.setIfInBounds i true) (a.put o.dst (vals i))) : LinP P md ops Q S B sp vals (n + 1) s listed a
  | spec {n : Nat} {s : σ} {listed : Array Bool} {a : Act} (i : Nat) (o : Oper) (N : Value → σ → Prop) (hi : ops[i]? = some o) (hr : i ∈ Region.ready md ops listed) (hf : FreeAt md ops listed i o) (hsp : sp i = true)
      (hw : ∃ D : Nat → Bool, WaitsFor md ops sp listed i D)
      (hN : ∃ u s', N u s') (hy : SpecAtP P ops S B s o a N) (h : ∀ u s', N u s' → LinP P md ops Q S B sp vals n s' (listed.setIfInBounds i true) (a.put o.dst u)) : LinP P md ops Q S B sp vals (n + 1) s listed a
  | last {n : Nat} {s : σ} {listed : Array Bool} {a : Act} (i : Nat) (o : Oper) (hi : ops[i]? = some o) (hr : i ∈ Region.ready md ops listed) (hsp : sp i = true) (hl : LastOp md ops i)
      (hw : Region.wanted o (yielded ops a.tmps) = true) (hy : ∀ w, S s w → GivesP P (execOp a.eval o) w (fun u w' => Q .normal (a.put o.dst u) w') B) : LinP P md ops Q S B sp vals (n + 1) s listed a
  | fork {n : Nat} {s : σ} {listed : Array Bool} {a : Act} (N : Nat → Value → σ → Prop) (hall : ∀ j ∈ Region.ready md ops listed, sp j = true) (hne : Region.ready md ops listed ≠ [])
      (hy : ∀ j o, j ∈ Region.ready md ops listed → ops[j]? = some o → SpecAtP P ops S B s o a (N j)) (h : ∀ j o u s', j ∈ Region.ready md ops listed → ops[j]? = some o → N j u s' → LinP P md ops Q S B sp vals n s' (listed.setIfInBounds j true) (a.put o.dst u)) : LinP P md ops Q S B sp vals (n + 1) s listed a

variable (hsel : ∀ (j : Nat) (o : Oper) cs b, ops[j]? = some o → o.op ≠ .select cs b)
include hsel

theorem LinP.first : ∀ (n : Nat) (s : σ) (listed : Array Bool) (a : Act) (j : Nat) (oj : Oper), LinP P md ops Q S B sp vals n s listed a → j ∈ Region.ready md ops listed → ops[j]? = some oj → sp j = false →
    OrdAt P ops S oj (vals j) a ∧ ∃ m, n = m + 1 ∧ LinP P md ops Q S B sp vals m s (listed.setIfInBounds j true) (a.put oj.dst (vals j)) := by
  intro n
  induction n with
  | zero =>
    intro s listed a j oj hl hj _ _
    cases hl with
    | done hr _ => rw [hr] at hj; cases hj
  | succ n ih =>
    intro s listed a j oj hl hj hoj hsj
    cases hl with
    | done hr _ => rw [hr] at hj; cases hj
    | ord i o hi hr hf hsp hy h =>
      by_cases hji : j = i
      · subst hji
        rw [hi] at hoj
        injection hoj with hoj
        subst hoj
        exact ⟨hy, n, rfl, h⟩
      · obtain ⟨h1, m, rfl, h2⟩ := ih _ _ _ j oj h (ready_mono hj hji) hoj hsj
        obtain ⟨a1, a2, a3⟩ := Oper.apart_spec (hf j oj hoj hji (mem_ready.1 hj).1 (waits_not hr hj hoj))
        refine ⟨h1.unput (fun cs b => hsel j oj cs b hoj) a1, m + 1, rfl, LinP.ord i o hi (ready_mono hr (Ne.symm hji)) hf.set hsp (hy.put (fun cs b => hsel i o cs b hi) a3) ?_⟩
        rw [← Act.put_comm a _ _ a2, Array.setIfInBounds_comm _ _ hji]
        exact h2
    | spec i o N hi hr hf hsp hw hN hy h =>
      have hji : j ≠ i := fun e => by rw [e, hsp] at hsj; cases hsj
      obtain ⟨a1, a2, a3⟩ := Oper.apart_spec (hf j oj hoj hji (mem_ready.1 hj).1 (waits_not hr hj hoj))
      obtain ⟨u0, s0, hN0⟩ := hN
      obtain ⟨h1, m, rfl, _⟩ := ih _ _ _ j oj (h u0 s0 hN0) (ready_mono hj hji) hoj hsj
      refine ⟨h1.unput (fun cs b => hsel j oj cs b hoj) a1, m + 1, rfl, LinP.spec i o N hi (ready_mono hr (Ne.symm hji)) hf.set hsp (hw.imp fun _ hW => hW.set hr hj) ⟨u0, s0, hN0⟩ (hy.put (fun cs b => hsel i o cs b hi) a3) ?_⟩
      intro u s' hus
      obtain ⟨_, m', hm', h2⟩ := ih _ _ _ j oj (h u s' hus) (ready_mono hj hji) hoj hsj
      obtain rfl : m = m' := by omega
      rw [← Act.put_comm a _ _ a2, Array.setIfInBounds_comm _ _ hji]
      exact h2
    | last i o hi hr hsp hlo _ _ =>
      have hji : j ≠ i := fun e => by rw [e, hsp] at hsj; cases hsj
      have h1 := hlo _ hr j (Array.getElem?_eq_some_iff.1 hoj).1 hji
      rw [(mem_ready.1 hj).1] at h1
      cases h1
    | fork N hall =>
      rw [hall j hj] at hsj
      cases hsj

theorem LinP.turns : ∀ (n : Nat) (s : σ) (listed : Array Bool) (a : Act) (j : Nat) (oj : Oper), LinP P md ops Q S B sp vals n s listed a → j ∈ Region.ready md ops listed → ops[j]? = some oj → sp j = true →
    (∃ N, SpecAtP P ops S B s oj a N ∧ ∃ m, n = m + 1 ∧ ∀ u s', N u s' → LinP P md ops Q S B sp vals m s' (listed.setIfInBounds j true) (a.put oj.dst u)) ∨
    (LastOp md ops j ∧ Region.wanted oj (yielded ops a.tmps) = true ∧ ∀ w, S s w → GivesP P (execOp a.eval oj) w (fun u w' => Q .normal (a.put oj.dst u) w') B) := by
  intro n
  induction n with
  | zero =>
    intro s listed a j oj hl hj _ _
    cases hl with
    | done hr _ => rw [hr] at hj; cases hj
  | succ n ih =>
    intro s listed a j oj hl hj hoj hsj
    cases hl with
    | done hr _ => rw [hr] at hj; cases hj
    | ord i o hi hr hf hsp hy h =>
      have hji : j ≠ i := fun e => by rw [e, hsp] at hsj; cases hsj
      rcases ih _ _ _ j oj h (ready_mono hj hji) hoj hsj with ⟨N, h1, m, rfl, h2⟩ | ⟨hlo, _⟩
      case inr =>
        have h1 := hlo _ hj i (Array.getElem?_eq_some_iff.1 hi).1 (Ne.symm hji)
        rw [(mem_ready.1 hr).1] at h1
        cases h1
      obtain ⟨a1, a2, a3⟩ := Oper.apart_spec (hf j oj hoj hji (mem_ready.1 hj).1 (waits_not hr hj hoj))
      refine Or.inl ⟨N, h1.unput (fun cs b => hsel j oj cs b hoj) a1, m + 1, rfl, fun u s' hus => LinP.ord i o hi (ready_mono hr (Ne.symm hji)) hf.set hsp (hy.put (fun cs b => hsel i o cs b hi) a3) ?_⟩
      rw [← Act.put_comm a _ _ a2, Array.setIfInBounds_comm _ _ hji]
      exact h2 u s' hus
    | spec i o N hi hr hf hsp hw hN hy h =>
      by_cases hji : j = i
      · subst hji
        rw [hi] at hoj
        injection hoj with hoj
        subst hoj
        exact Or.inl ⟨N, hy, n, rfl, h⟩
      · obtain ⟨D, hW⟩ := hw
        have h1 := hW.1 j oj hoj hsj hji (mem_ready.1 hj).1
        rw [hW.not_ready hr hj] at h1
        cases h1
    | last i o hi hr hsp hlo hw hy =>
      by_cases hji : j = i
      · subst hji
        rw [hi] at hoj
        injection hoj with hoj
        subst hoj
        exact Or.inr ⟨hlo, hw, hy⟩
      · have h1 := hlo _ hr j (Array.getElem?_eq_some_iff.1 hoj).1 hji
        rw [(mem_ready.1 hj).1] at h1
        cases h1
    | fork N hall hne hy h => exact Or.inl ⟨N j, hy j oj hj hoj, n, rfl, fun u s' hu => h j oj u s' hj hoj hu⟩
omit hsel in
theorem last_none {n i : Nat} {listed : Array Bool} {a : Act} {w : World} (hlo : LastOp md ops i) (hr : i ∈ Region.ready md ops listed) (h : Q .normal a w) : wpAny P md ops Q n (listed.setIfInBounds i true) a w := by
  have hz : Region.ready md ops (listed.setIfInBounds i true) = [] := by
    rw [List.eq_nil_iff_forall_not_mem]
    intro k hk
    obtain ⟨h1, ok, h2, _⟩ := mem_ready.1 hk
    have hkl := (Array.getElem?_eq_some_iff.1 h2).1
    by_cases e : k = i
    · subst e
      have hu := (mem_ready.1 hr).1
      have hks : k < listed.size := by
        rcases Nat.lt_or_ge k listed.size with c | c
        · exact c
        · simp [Array.getElem?_eq_none c] at hu
      simp [hks] at h1
    · have := hlo _ hr k hkl e
      rw [getD_set_ne true (Ne.symm e)] at h1
      rw [this] at h1
      cases h1
  cases n with
  | zero => exact ⟨hz, h⟩
  | succ n => exact ⟨fun _ => h, fun j hj => by rw [hz] at hj; cases hj⟩

theorem LinP.any {D : List Deferred} (hB : ∀ ch (a : Act) w, a.defers = D → B ch w → Q (.panic ch) a w) : ∀ (n : Nat) (s : σ) (listed : Array Bool) (a : Act) (w : World), LinP P md ops Q S B sp vals n s listed a → S s w → a.defers = D → wpAny P md ops Q n listed a w := by
  intro n
  induction n with
  | zero =>
    intro s listed a w hl hS hD
    cases hl with
    | done hr hQ => exact ⟨hr, hQ w hS⟩
  | succ n ih =>
    intro s listed a w hl hS hD
    refine ⟨fun h => ?_, fun j hj => ?_⟩
    · cases hl with
      | done hr hQ => exact hQ w hS
      | ord i o hi hr => rw [h] at hr; cases hr
      | spec i o N hi hr => rw [h] at hr; cases hr
      | last i o hi hr => rw [h] at hr; cases hr
      | fork N hall hne => exact absurd h hne
    · obtain ⟨_, oj, hoj, _⟩ := mem_ready.1 hj
      unfold wpOp
      simp only [hoj]
      cases hsj : sp j with
      | false =>
        obtain ⟨h1, m, hm, h2⟩ := LinP.first hsel _ _ _ _ j oj hl hj hoj hsj
        obtain rfl : n = m := by omega
        rcases h1 with ⟨hw, hg⟩ | ⟨hw, hv⟩
        · rw [if_pos hw]
          refine Or.inl ((hg s w hS).wp fun u w' ⟨hu, hS'⟩ => ?_)
          subst hu
          exact ih _ _ _ _ h2 hS' ((put_defers _ _ _).trans hD)
        · rw [if_neg (by rw [hw]; exact Bool.false_ne_true)]
          rw [hv] at h2
          exact ih _ _ _ _ h2 hS ((put_defers _ _ _).trans hD)
      | true =>
        rcases LinP.turns hsel _ _ _ _ j oj hl hj hoj hsj with ⟨N, ⟨hw, hg⟩, m, hm, h2⟩ | ⟨hlo, hw, hg⟩
        case inr =>
          rw [if_pos hw]
          exact Or.inl ((hg w hS).wp (fun u w' hq => last_none hlo hj hq) (fun ch w' hb => hB ch a w' hD hb))
        obtain rfl : n = m := by omega
        rw [if_pos hw]
        exact Or.inl ((hg w hS).wp (fun u w' ⟨s', hu, hS'⟩ => ih _ _ _ _ (h2 u s' hu) hS' ((put_defers _ _ _).trans hD)) (fun ch w' hb => hB ch a w' hD hb))
end

/-! ### the moves of a walk -/
section
variable {P : Program} {ops : Array Oper} {Q : Exit → Act → World → Prop} {σ : Type} {S : σ → World → Prop} {sp : Nat → Bool} {vals : Nat → Value} {B : List PanicEntry → World → Prop}
/-- the beginning -/
theorem wp_region_linp {id : Nat} {a : Act} {w : World} (S : σ → World → Prop) (B : List PanicEntry → World → Prop) (sp : Nat → Bool) (vals : Nat → Value) (s : σ) (hm : P.follows .mixedOrders = true) (hs : Region.noSelect ops = true) (hB : ∀ ch (a' : Act) w', a'.defers = a.defers → B ch w' → Q (.panic ch) a' w') (hS : S s w.drew)
    (h : LinP P .any ops Q S B sp vals ops.size s (Array.replicate ops.size false) a) : (Code.region id ops true).wp P Q a w :=
  wp_region_any hm (LinP.any (Region.noSelect_spec hs) hB _ _ _ _ _ h hS rfl)
theorem linp_step {n : Nat} {s : σ} {listed : Array Bool} {a : Act} {i : Nat} {o : Oper} {v : Value} {d : Option Tmp} (hi : ops[i]? = some o) (hd : o.dst = d) (hr : (Region.ready .any ops listed).contains i = true) (hf : Region.free .any ops listed i = true) (hsp : sp i = false) (hv : vals i = v)
    (hy : OrdAt P ops S o v a) (h : LinP P .any ops Q S B sp vals n s (listed.setIfInBounds i true) (a.put d v)) : LinP P .any ops Q S B sp vals (n + 1) s listed a :=
  LinP.ord i o hi (by simpa using hr) (Region.free_spec hi hf) hsp (hv ▸ hy) (by rw [hd, hv]; exact h)
theorem linp_turn {n : Nat} {s : σ} {listed : Array Bool} {a : Act} {i : Nat} {o : Oper} {d : Option Tmp} (N : Value → σ → Prop) (hi : ops[i]? = some o) (hd : o.dst = d) (hr : (Region.ready .any ops listed).contains i = true) (hf : Region.free .any ops listed i = true) (hsp : sp i = true)
    (hw : waitB ops sp listed i = true) (hN : ∃ u s', N u s') (hwa : Region.wanted o (yielded ops a.tmps) = true) (hy : ∀ w, S s w → GivesP P (execOp a.eval o) w (fun u w' => ∃ s', N u s' ∧ S s' w') B)
    (h : ∀ u s', N u s' → LinP P .any ops Q S B sp vals n s' (listed.setIfInBounds i true) (a.put d u)) : LinP P .any ops Q S B sp vals (n + 1) s listed a :=
  LinP.spec i o N hi (by simpa using hr) (Region.free_spec hi hf) hsp ⟨_, waits_direct hw⟩ hN ⟨hwa, hy⟩ (by rw [hd]; exact h)
theorem linp_turnD {n : Nat} {s : σ} {listed : Array Bool} {a : Act} {i : Nat} {o : Oper} {d : Option Tmp} (D : List Nat) (N : Value → σ → Prop) (hi : ops[i]? = some o) (hd : o.dst = d) (hr : (Region.ready .any ops listed).contains i = true) (hf : Region.free .any ops listed i = true) (hsp : sp i = true)
    (hw : waitD ops sp listed i D = true) (hN : ∃ u s', N u s') (hwa : Region.wanted o (yielded ops a.tmps) = true) (hy : ∀ w, S s w → GivesP P (execOp a.eval o) w (fun u w' => ∃ s', N u s' ∧ S s' w') B)
    (h : ∀ u s', N u s' → LinP P .any ops Q S B sp vals n s' (listed.setIfInBounds i true) (a.put d u)) : LinP P .any ops Q S B sp vals (n + 1) s listed a :=
  LinP.spec i o N hi (by simpa using hr) (Region.free_spec hi hf) hsp ⟨_, waitD_spec hw⟩ hN ⟨hwa, hy⟩ (by rw [hd]; exact h)
theorem lastB_spec {i : Nat} (h : lastB ops i = true) : LastOp .any ops i := by
  intro listed hr k hk hne
  obtain ⟨_, o, ho, hall⟩ := mem_ready.1 hr
  simp only [lastB, List.all_eq_true, List.mem_range] at h
  have h1 := h k hk
  simp only [ho, Bool.or_eq_true, beq_iff_eq, hne, false_or] at h1
  obtain ⟨e, he, hb⟩ := Array.any_eq_true'.1 h1
  simp only [Bool.and_eq_true, beq_iff_eq] at hb
  have := hall e he hb.1
  rw [hb.2] at this
  rcases Nat.lt_or_ge k listed.size with c | c
  · simp [c] at this ⊢; exact this
  · simp [Array.getElem?_eq_none c]
theorem linp_last {n : Nat} {s : σ} {listed : Array Bool} {a : Act} {i : Nat} {o : Oper} {d : Option Tmp} (hi : ops[i]? = some o) (hd : o.dst = d) (hr : (Region.ready .any ops listed).contains i = true) (hsp : sp i = true) (hl : lastB ops i = true)
    (hwa : Region.wanted o (yielded ops a.tmps) = true) (hy : ∀ w, S s w → GivesP P (execOp a.eval o) w (fun u w' => Q .normal (a.put d u) w') B) : LinP P .any ops Q S B sp vals (n + 1) s listed a :=
  LinP.last i o hi (by simpa using hr) hsp (lastB_spec hl) hwa (by rw [hd]; exact hy)
theorem linp_done {n : Nat} {s : σ} {listed : Array Bool} {a : Act} (hr : Region.ready .any ops listed = []) (hQ : ∀ w, S s w → Q .normal a w) : LinP P .any ops Q S B sp vals n s listed a := LinP.done hr hQ
end
end Go.Proofs.Ythngbakbiocadaa

/-
  The numbers that an instruction reckons with.
-/
namespace Go.Proofs.Ythngbakbiocadaa
set_option maxRecDepth 100000
open Go.ChangeShapes Go.WideShapes Go.ChangeAt Go.RowKit Go.Maps
open V

set_option maxRecDepth 100000 in
theorem hasImm_any (o : Int) (w : World) : Calls Try.prog 77 #[.int .i64 o] w fun e w' => e = .returned (.bool (Y.hasImm o)) ∧ Below w.heap.size w w' := by
  have HU := Lib.hid (Yq.usesOf_any o w)
  have HE := Lib.hid (Yq.imm_eq o)
  unfold Yq.useL at HU
  generalize (Y.known o && Y.useDst o) = a at HU
  generalize (Y.known o && Y.useSrc o) = b at HU
  generalize (Y.known o && Y.useOff o) = c at HU
  generalize (Y.known o && Y.useImm o) = d at HU HE
  generalize Y.known o = k at HU
  go_enter Try.func77, Try.ntmps77
  cases d
  all_goals
    go_wp2_with (go_at_call 38; (with_reducible refine HU.out.mono ?_); rintro e w' ⟨rfl, hb⟩; have B := Lib.hid hb; clear hb)
    go_ret
    refine ⟨ret_bool ?_, B.out.alloc B.out.size _⟩
    rw [HE.out]
    rw [Bool.eq_iff_iff]
    simp
section
variable {E : Ev} {S : Nat → Prop} {s : V.St} {W : World}
def opsF (s : V.St) (x : Y.In) : Except Nat (Int × Int) :=
  if Y.hasImm x.op then (match (s.r x.dst).nm with
    | .error y => .error y
    | .ok a => .ok (a, x.imm)) else rd2 (s.r x.dst) (s.r x.src)
theorem drew_below (w : World) : Below w.heap.size w w.drew := (Below.refl _ _).drew
set_option maxHeartbeats 2000000 in
theorem operands_imm_ok (h : RunAt E S s W) (x : Y.In) (hx : Y.Bd x) (hi : Y.hasImm x.op = true) {a : Int} (hn : (s.r x.dst).nm = .ok a) : Calls Try.prog 71 #[.pointer (some ⟨E.R, 0, none⟩), .agg #[.int .i64 x.op, .int .i64 x.dst, .int .i64 x.src, .int .i64 x.off, .int .i64 x.imm]] W fun e w' => e = .returned (.tuple #[.int .i64 a, .int .i64 x.imm]) ∧ Below W.heap.size W w' := by
  have HI := Lib.hid hi
  have HN := Lib.hid (fun W' (hb : Below W.heap.size W W') => number_ok (h.step hb) x.dst ⟨hx.dst.1, by have := hx.dst.2; omega⟩ hn)
  have HX := Lib.hid (Yq.boxS_new W x 64)
  clear h hx hi hn
  go_enter Try.func71, Try.ntmps71
  go_upto_region 1 with fail
  generalize W.alloc (.cells #[.int .i64 x.op, .int .i64 x.dst, .int .i64 x.src, .int .i64 x.off, .int .i64 x.imm] 64) = W1 at HX ⊢
  obtain ⟨c0, c1, c2, c3, c4⟩ := HX.out.cells
  go_upto_region 2 with (go_at_call 77; (with_reducible refine (hasImm_any _ _).mono ?_); rw [HI.out]; rintro e w2 ⟨rfl, hb⟩; have HX2 := Lib.hid (HX.out.call hb); clear hb HX c0 c1 c2 c3 c4)
  refine wp_region_linp (fun (k : Bool) (w' : World) => k = true ∧ Yq.BoxS W W.heap.size x w') (fun _ _ => False) (fun i => i == 3) (fun i => [.pointer (some ⟨E.R, 0, none⟩), .pointer (some ⟨W.heap.size, 1, none⟩), .int .i64 x.dst, undef, .pointer (some ⟨W.heap.size, 4, none⟩), .int .i64 x.imm, .int .i64 a, .int .i64 x.imm].getD i undef) (true) (by kernel_rfl) (by kernel_rfl) (fun _ _ _ _ hf => hf.elim) (⟨rfl, HX2.out.call (drew_below _)⟩) ?_
  refine linp_step (i := 0) (d := some 9) (v := .pointer (some ⟨E.R, 0, none⟩)) rfl rfl (by kernel_rfl) (by kernel_rfl) rfl rfl (ord_value (by kernel_rfl) ?_) ?_
  · (intro s' w' hS; go_simp)
  (try simp only [Act.put, List.setIfInBounds_toArray, List.set_cons_zero, List.set_cons_succ])
  refine linp_step (i := 1) (d := some 10) (v := .pointer (some ⟨W.heap.size, 1, none⟩)) rfl rfl (by kernel_rfl) (by kernel_rfl) rfl rfl (ord_value (by kernel_rfl) ?_) ?_
  · (intro s' w' hS; go_simp)
  (try simp only [Act.put, List.setIfInBounds_toArray, List.set_cons_zero, List.set_cons_succ])
  refine linp_step (i := 2) (d := some 11) (v := .int .i64 x.dst) rfl rfl (by kernel_rfl) (by kernel_rfl) rfl rfl (ord_value (by kernel_rfl) ?_) ?_
  · (intro s' w' hS; (obtain ⟨c0, c1, c2, c3, c4⟩ := (hS.2).cells; go_simp))
  (try simp only [Act.put, List.setIfInBounds_toArray, List.set_cons_zero, List.set_cons_succ])
  refine linp_turnD (i := 3) (d := some 12) [] (fun u k => u = .int .i64 a ∧ k = true) rfl rfl (by kernel_rfl) (by kernel_rfl) rfl (by kernel_rfl) (⟨_, _, rfl, rfl⟩) (by kernel_rfl) (fun w' hS => givesP_call (f := 53) (args := #[.pointer (some ⟨E.R, 0, none⟩), .int .i64 x.dst]) (by go_simp <;> rfl) ((HN.out _ hS.2.bel).mono fun e w2 hh => Or.inl ⟨_, hh.1, true, ⟨rfl, rfl⟩, rfl, hS.2.call hh.2⟩)) ?_
  rintro _ _ ⟨rfl, rfl⟩
  (try simp only [Act.put, List.setIfInBounds_toArray, List.set_cons_zero, List.set_cons_succ])
  refine linp_step (i := 4) (d := some 13) (v := .pointer (some ⟨W.heap.size, 4, none⟩)) rfl rfl (by kernel_rfl) (by kernel_rfl) rfl rfl (ord_value (by kernel_rfl) ?_) ?_
  · (intro s' w' hS; go_simp)
  (try simp only [Act.put, List.setIfInBounds_toArray, List.set_cons_zero, List.set_cons_succ])
  refine linp_step (i := 5) (d := some 14) (v := .int .i64 x.imm) rfl rfl (by kernel_rfl) (by kernel_rfl) rfl rfl (ord_value (by kernel_rfl) ?_) ?_
  · (intro s' w' hS; (obtain ⟨c0, c1, c2, c3, c4⟩ := (hS.2).cells; go_simp))
  (try simp only [Act.put, List.setIfInBounds_toArray, List.set_cons_zero, List.set_cons_succ])
  refine linp_step (i := 6) (d := some 4) (v := .int .i64 a) rfl rfl (by kernel_rfl) (by kernel_rfl) rfl rfl (ord_value (by kernel_rfl) ?_) ?_
  · (intro s' w' hS; go_simp)
  (try simp only [Act.put, List.setIfInBounds_toArray, List.set_cons_zero, List.set_cons_succ])
  refine linp_step (i := 7) (d := some 5) (v := .int .i64 x.imm) rfl rfl (by kernel_rfl) (by kernel_rfl) rfl rfl (ord_value (by kernel_rfl) ?_) ?_
  · (intro s' w' hS; go_simp)
  (try simp only [Act.put, List.setIfInBounds_toArray, List.set_cons_zero, List.set_cons_succ])
  refine linp_done (by kernel_rfl) ?_
  intro w' hS
  go_wp2
  go_ret2
  exact ⟨rfl, hS.2.bel⟩
set_option maxHeartbeats 2000000 in
theorem operands_imm_no (h : RunAt E S s W) (x : Y.In) (hx : Y.Bd x) (hi : Y.hasImm x.op = true) {y : Nat} (hn : (s.r x.dst).nm = .error y) : Calls Try.prog 71 #[.pointer (some ⟨E.R, 0, none⟩), .agg #[.int .i64 x.op, .int .i64 x.dst, .int .i64 x.src, .int .i64 x.off, .int .i64 x.imm]] W fun e w' => e = whyE y ∧ Below W.heap.size W w' := by
  have HI := Lib.hid hi
  have HN := Lib.hid (fun W' (hb : Below W.heap.size W W') => number_no (h.step hb) x.dst ⟨hx.dst.1, by have := hx.dst.2; omega⟩ hn)
  have HX := Lib.hid (Yq.boxS_new W x 64)
  clear h hx hi hn
  go_enter Try.func71, Try.ntmps71
  go_upto_region 1 with fail
  generalize W.alloc (.cells #[.int .i64 x.op, .int .i64 x.dst, .int .i64 x.src, .int .i64 x.off, .int .i64 x.imm] 64) = W1 at HX ⊢
  obtain ⟨c0, c1, c2, c3, c4⟩ := HX.out.cells
  go_upto_region 2 with (go_at_call 77; (with_reducible refine (hasImm_any _ _).mono ?_); rw [HI.out]; rintro e w2 ⟨rfl, hb⟩; have HX2 := Lib.hid (HX.out.call hb); clear hb HX c0 c1 c2 c3 c4)
  refine wp_region_linp (fun (k : Bool) (w' : World) => k = true ∧ Yq.BoxS W W.heap.size x w') (fun ch w' => Ending.panicked ch = whyE y ∧ Below W.heap.size W w') (fun i => i == 3) (fun i => [.pointer (some ⟨E.R, 0, none⟩), .pointer (some ⟨W.heap.size, 1, none⟩), .int .i64 x.dst, undef, .pointer (some ⟨W.heap.size, 4, none⟩), .int .i64 x.imm, .int .i64 0, .int .i64 x.imm].getD i undef) (true) (by kernel_rfl) (by kernel_rfl) (fun ch a' w' hd hb => by
    obtain ⟨he, hb⟩ := hb
    injection he with he
    subst he
    exact ⟨hd, rfl, hb⟩) (⟨rfl, HX2.out.call (drew_below _)⟩) ?_
  refine linp_step (i := 0) (d := some 9) (v := .pointer (some ⟨E.R, 0, none⟩)) rfl rfl (by kernel_rfl) (by kernel_rfl) rfl rfl (ord_value (by kernel_rfl) ?_) ?_
  · (intro s' w' hS; go_simp)
  (try simp only [Act.put, List.setIfInBounds_toArray, List.set_cons_zero, List.set_cons_succ])
  refine linp_step (i := 1) (d := some 10) (v := .pointer (some ⟨W.heap.size, 1, none⟩)) rfl rfl (by kernel_rfl) (by kernel_rfl) rfl rfl (ord_value (by kernel_rfl) ?_) ?_
  · (intro s' w' hS; go_simp)
  (try simp only [Act.put, List.setIfInBounds_toArray, List.set_cons_zero, List.set_cons_succ])
  refine linp_step (i := 2) (d := some 11) (v := .int .i64 x.dst) rfl rfl (by kernel_rfl) (by kernel_rfl) rfl rfl (ord_value (by kernel_rfl) ?_) ?_
  · (intro s' w' hS; (obtain ⟨c0, c1, c2, c3, c4⟩ := (hS.2).cells; go_simp))
  (try simp only [Act.put, List.setIfInBounds_toArray, List.set_cons_zero, List.set_cons_succ])
  refine linp_turnD (i := 3) (d := some 12) [] (fun u k => u = .int .i64 0 ∧ k = false) rfl rfl (by kernel_rfl) (by kernel_rfl) rfl (by kernel_rfl) (⟨_, _, rfl, rfl⟩) (by kernel_rfl) (fun w' hS => givesP_call (f := 53) (args := #[.pointer (some ⟨E.R, 0, none⟩), .int .i64 x.dst]) (by go_simp <;> rfl) ((HN.out _ hS.2.bel).mono fun e w2 hh => Or.inr ⟨_, hh.1, rfl, hS.2.bel.trans (hh.2.mono hS.2.bel.size)⟩)) ?_
  rintro _ _ ⟨rfl, rfl⟩
  (try simp only [Act.put, List.setIfInBounds_toArray, List.set_cons_zero, List.set_cons_succ])
  refine linp_step (i := 4) (d := some 13) (v := .pointer (some ⟨W.heap.size, 4, none⟩)) rfl rfl (by kernel_rfl) (by kernel_rfl) rfl rfl (ord_value (by kernel_rfl) ?_) ?_
  · (intro s' w' hS; go_simp)
  (try simp only [Act.put, List.setIfInBounds_toArray, List.set_cons_zero, List.set_cons_succ])
  refine linp_step (i := 5) (d := some 14) (v := .int .i64 x.imm) rfl rfl (by kernel_rfl) (by kernel_rfl) rfl rfl (ord_value (by kernel_rfl) ?_) ?_
  · (intro s' w' hS; (obtain ⟨c0, c1, c2, c3, c4⟩ := (hS.2).cells; go_simp))
  (try simp only [Act.put, List.setIfInBounds_toArray, List.set_cons_zero, List.set_cons_succ])
  refine linp_step (i := 6) (d := some 4) (v := .int .i64 0) rfl rfl (by kernel_rfl) (by kernel_rfl) rfl rfl (ord_value (by kernel_rfl) ?_) ?_
  · (intro s' w' hS; go_simp)
  (try simp only [Act.put, List.setIfInBounds_toArray, List.set_cons_zero, List.set_cons_succ])
  refine linp_step (i := 7) (d := some 5) (v := .int .i64 x.imm) rfl rfl (by kernel_rfl) (by kernel_rfl) rfl rfl (ord_value (by kernel_rfl) ?_) ?_
  · (intro s' w' hS; go_simp)
  (try simp only [Act.put, List.setIfInBounds_toArray, List.set_cons_zero, List.set_cons_succ])
  refine linp_done (by kernel_rfl) ?_
  intro w' hS
  cases hS.1
set_option maxHeartbeats 2000000 in
theorem operands_two (h : RunAt E S s W) (x : Y.In) (hx : Y.Bd x) (hi : Y.hasImm x.op = false) : Calls Try.prog 71 #[.pointer (some ⟨E.R, 0, none⟩), .agg #[.int .i64 x.op, .int .i64 x.dst, .int .i64 x.src, .int .i64 x.off, .int .i64 x.imm]] W (Rd W num2V (rd2 (s.r x.dst) (s.r x.src))) := by
  have HI := Lib.hid hi
  have HN := Lib.hid (fun W' (hb : Below W.heap.size W W') => numbers_any (h.step hb) x.dst x.src ⟨hx.dst.1, by have := hx.dst.2; omega⟩ ⟨hx.src.1, by have := hx.src.2; omega⟩)
  have HX := Lib.hid (Yq.boxS_new W x 64)
  clear h hx hi
  generalize rd2 (s.r x.dst) (s.r x.src) = X at HN ⊢
  cases X with
  | error y =>
    go_enter Try.func71, Try.ntmps71
    go_upto_region 1 with fail
    generalize W.alloc (.cells #[.int .i64 x.op, .int .i64 x.dst, .int .i64 x.src, .int .i64 x.off, .int .i64 x.imm] 64) = W1 at HX ⊢
    obtain ⟨c0, c1, c2, c3, c4⟩ := HX.out.cells
    go_wp2_with (first | (go_at_call 77; (with_reducible refine (hasImm_any _ _).mono ?_); rw [HI.out]; rintro e w2 ⟨rfl, hb⟩; have HX2 := Lib.hid (HX.out.call hb); clear hb HX c0 c1 c2 c3 c4; obtain ⟨c0, c1, c2, c3, c4⟩ := HX2.out.cells) | (go_at_call 57; (with_reducible refine (HN.out _ HX2.out.bel).mono ?_); rintro e w3 ⟨rfl, hb⟩; exact ⟨rfl, rfl, HX2.out.bel.trans (hb.mono HX2.out.bel.size)⟩))
  | ok p =>
    go_enter Try.func71, Try.ntmps71
    go_upto_region 1 with fail
    generalize W.alloc (.cells #[.int .i64 x.op, .int .i64 x.dst, .int .i64 x.src, .int .i64 x.off, .int .i64 x.imm] 64) = W1 at HX ⊢
    obtain ⟨c0, c1, c2, c3, c4⟩ := HX.out.cells
    obtain ⟨a, b⟩ := p
    go_wp2_with (first | (go_at_call 77; (with_reducible refine (hasImm_any _ _).mono ?_); rw [HI.out]; rintro e w2 ⟨rfl, hb⟩; have HX2 := Lib.hid (HX.out.call hb); clear hb HX c0 c1 c2 c3 c4; obtain ⟨c0, c1, c2, c3, c4⟩ := HX2.out.cells) | (go_at_call 57; (with_reducible refine (HN.out _ HX2.out.bel).mono ?_); rintro e w3 ⟨rfl, hb⟩; unfold RdE num2V; have HB3 := Lib.hid (HX2.out.bel.trans (hb.mono HX2.out.bel.size)); clear hb))
    go_ret2
    exact ⟨rfl, HB3.out⟩
theorem operands_any (h : RunAt E S s W) (x : Y.In) (hx : Y.Bd x) : Calls Try.prog 71 #[.pointer (some ⟨E.R, 0, none⟩), .agg #[.int .i64 x.op, .int .i64 x.dst, .int .i64 x.src, .int .i64 x.off, .int .i64 x.imm]] W (Rd W num2V (opsF s x)) := by
  unfold opsF
  cases hi : Y.hasImm x.op with
  | true =>
    rw [if_pos rfl]
    cases hn : (s.r x.dst).nm with
    | error y => exact operands_imm_no h x hx hi hn
    | ok a => exact operands_imm_ok h x hx hi hn
  | false =>
    rw [if_neg (by decide)]
    exact operands_two h x hx hi
end
end Go.Proofs.Ythngbakbiocadaa
