/-
  A region that draws its order, gone through in ONE order: each operation either gives the same value in every world of a kind and keeps it of that kind (a call that makes memory too), or is one of a few that turn the kind and wait for one another.
-/
import Derived.Test.YtkomehplcacbcaaRows
import Derived.Orders
import Derived.WalkKit
namespace Go.Proofs.Ytkomehplcacbcaa
open Go.RowKit

section
variable {P : Program} {ops : Array Oper} {Q : Exit → Act → World → Prop} {md : Region.Mode} {σ : Type} {S : σ → World → Prop} {sp : Nat → Bool} {vals : Nat → Value}

/-- what an operation gives, and the world behind it -/
def Gives (P : Program) (m : Sem Next) (w : World) (R : Value → World → Prop) : Prop :=
  match m.run P w with
  | .ok (.value u) w' => R u w'
  | .ok .skip w' => R undef w'
  | .ok (.enter f args) w' => Calls P f args w' fun e w'' => ∃ u, e = .returned u ∧ R u w''
  | _ => False
theorem Gives.mono {m : Sem Next} {w : World} {R R' : Value → World → Prop} (h : Gives P m w R) (hr : ∀ u w', R u w' → R' u w') : Gives P m w R' := by
  unfold Gives at *
  generalize m.run P w = r at *
  cases r with
  | halt x w' => exact h
  | ok n w' =>
    cases n <;> simp only at h ⊢
    case value u => exact hr _ _ h
    case skip => exact hr _ _ h
    case enter f args => exact h.mono fun e w'' ⟨u, hu, hR⟩ => ⟨u, hu, hr _ _ hR⟩
theorem Gives.wp {o : Oper} {a : Act} {w : World} {R : Value → World → Prop} {K : Act → World → Prop} (h : Gives P (execOp a.eval o) w R) (hK : ∀ u w', R u w' → K (a.put o.dst u) w') : Oper.wp P o a w K Q := by
  unfold Gives at h
  unfold Oper.wp
  generalize (execOp a.eval o).run P w = r at *
  cases r with
  | halt x w' => exact h.elim
  | ok n w' =>
    cases n <;> simp only [Oper.upon] at h ⊢
    case value u => exact hK _ _ h
    case skip => exact hK _ _ h
    case enter f args =>
      refine h.mono fun e w'' ⟨u, hu, hR⟩ => ?_
      subst hu
      exact hK _ _ hR
theorem gives_value {m : Sem Next} {w : World} {R : Value → World → Prop} {v : Value} (h : m.run P w = .ok (.value v) w) (hR : R v w) : Gives P m w R := by
  unfold Gives; rw [h]; exact hR
theorem gives_to {m : Sem Next} {w w' : World} {R : Value → World → Prop} {v : Value} (h : m.run P w = .ok (.value v) w') (hR : R v w') : Gives P m w R := by
  unfold Gives; rw [h]; exact hR
theorem gives_call {m : Sem Next} {w : World} {R : Value → World → Prop} {f : FuncId} {args : Array Value} (h : m.run P w = .ok (.enter f args) w) (hR : Calls P f args w fun e w'' => ∃ u, e = .returned u ∧ R u w'') : Gives P m w R := by
  unfold Gives; rw [h]; exact hR

/-- in every world of every kind: the same value, the same kind -/
def OrdAt (P : Program) (ops : Array Oper) (S : σ → World → Prop) (o : Oper) (v : Value) (a : Act) : Prop :=
  (Region.wanted o (yielded ops a.tmps) = true ∧ ∀ s w, S s w → Gives P (execOp a.eval o) w fun u w' => u = v ∧ S s w') ∨
  (Region.wanted o (yielded ops a.tmps) = false ∧ v = undef)
/-- in every world of this kind: a value and a kind that go together -/
def SpecAt (P : Program) (ops : Array Oper) (S : σ → World → Prop) (s : σ) (o : Oper) (a : Act) (N : Value → σ → Prop) : Prop :=
  Region.wanted o (yielded ops a.tmps) = true ∧ ∀ w, S s w → Gives P (execOp a.eval o) w fun u w' => ∃ s', N u s' ∧ S s' w'

theorem OrdAt.put {oi oj : Oper} {v u : Value} {a : Act} (hs : ∀ cs b, oi.op ≠ .select cs b) (h : ∀ d, oj.dst = some d → d ∉ oi.looksAt ops) (hy : OrdAt P ops S oi v a) : OrdAt P ops S oi v (a.put oj.dst u) := by
  unfold OrdAt at *
  rw [execOp_put oi hs a oj.dst u h, wanted_put oi a oj.dst u h]
  exact hy
theorem OrdAt.unput {oi oj : Oper} {v u : Value} {a : Act} (hs : ∀ cs b, oj.op ≠ .select cs b) (h : ∀ d, oi.dst = some d → d ∉ oj.looksAt ops) (hy : OrdAt P ops S oj v (a.put oi.dst u)) : OrdAt P ops S oj v a := by
  unfold OrdAt at *
  rw [execOp_put oj hs a oi.dst u h, wanted_put oj a oi.dst u h] at hy
  exact hy
theorem SpecAt.put {oi oj : Oper} {s : σ} {u : Value} {N : Value → σ → Prop} {a : Act} (hs : ∀ cs b, oi.op ≠ .select cs b) (h : ∀ d, oj.dst = some d → d ∉ oi.looksAt ops) (hy : SpecAt P ops S s oi a N) : SpecAt P ops S s oi (a.put oj.dst u) N := by
  unfold SpecAt at *
  rw [execOp_put oi hs a oj.dst u h, wanted_put oi a oj.dst u h]
  exact hy
theorem SpecAt.unput {oi oj : Oper} {s : σ} {u : Value} {N : Value → σ → Prop} {a : Act} (hs : ∀ cs b, oj.op ≠ .select cs b) (h : ∀ d, oi.dst = some d → d ∉ oj.looksAt ops) (hy : SpecAt P ops S s oj (a.put oi.dst u) N) : SpecAt P ops S s oj a N := by
  unfold SpecAt at *
  rw [execOp_put oj hs a oi.dst u h, wanted_put oj a oi.dst u h] at hy
  exact hy

/-- nobody who may come ahead of it touches what it looks at or writes -/
def FreeAt (md : Region.Mode) (ops : Array Oper) (listed : Array Bool) (i : Nat) (oi : Oper) : Prop :=
  ∀ j oj, ops[j]? = some oj → j ≠ i → listed.getD j true = false → (∀ e ∈ oj.after, Region.binds md e = true → e.on ≠ i) → oi.apart ops oj = true
theorem unlisted_set {listed : Array Bool} {j k : Nat} (h : (listed.setIfInBounds j true).getD k true = false) : listed.getD k true = false := by
  by_cases hjk : j = k
  · subst hjk
    rcases Nat.lt_or_ge j listed.size with h' | h'
    · simp [h'] at h
    · simp at h
  · rw [getD_set_ne true hjk] at h; exact h
theorem FreeAt.set {listed : Array Bool} {i j : Nat} {oi : Oper} (h : FreeAt md ops listed i oi) : FreeAt md ops (listed.setIfInBounds j true) i oi :=
  fun k ok hk hki hun hno => h k ok hk hki (unlisted_set hun) hno
theorem waits_not {listed : Array Bool} {i j : Nat} {oj : Oper} (hr : i ∈ Region.ready md ops listed) (hj : j ∈ Region.ready md ops listed) (hoj : ops[j]? = some oj) : ∀ e ∈ oj.after, Region.binds md e = true → e.on ≠ i := by
  intro e he hb heq
  obtain ⟨_, o, ho, hall⟩ := mem_ready.1 hj
  rw [hoj] at ho
  injection ho with ho
  subst ho
  have h1 := hall e he hb
  have h0 := (mem_ready.1 hr).1
  rw [heq] at h1
  rcases Nat.lt_or_ge i listed.size with h' | h'
  · simp [h'] at h0 h1; rw [h0] at h1; cases h1
  · simp [Array.getElem?_eq_none h'] at h1

/-- all others that turn the kind wait for this one, it may be through others (D) that wait for it -/
def WaitsFor (md : Region.Mode) (ops : Array Oper) (sp : Nat → Bool) (listed : Array Bool) (i : Nat) (D : Nat → Bool) : Prop :=
  (∀ k ok, ops[k]? = some ok → sp k = true → k ≠ i → listed.getD k true = false → D k = true) ∧
  (∀ u, D u = true → u ≠ i ∧ listed.getD u true = false ∧ ∃ ou, ops[u]? = some ou ∧ ∃ e ∈ ou.after, Region.binds md e = true ∧ (e.on = i ∨ D e.on = true))
theorem WaitsFor.not_ready {sp : Nat → Bool} {listed : Array Bool} {i : Nat} {D : Nat → Bool} (h : WaitsFor md ops sp listed i D) (hr : i ∈ Region.ready md ops listed) {j : Nat} (hj : j ∈ Region.ready md ops listed) : D j = false := by
  cases hD : D j with
  | false => rfl
  | true =>
    exfalso
    obtain ⟨_, _, ou, hou, e, he, hb, hon⟩ := h.2 j hD
    rcases hon with hon | hon
    · exact waits_not hr hj hou e he hb hon
    · obtain ⟨_, hun, ou2, hou2, _⟩ := h.2 e.on hon
      obtain ⟨_, o, ho, hall⟩ := mem_ready.1 hj
      rw [hou] at ho
      injection ho with ho
      subst ho
      have h1 := hall e he hb
      rcases Nat.lt_or_ge e.on listed.size with h' | h'
      · simp [h'] at h1 hun; rw [h1] at hun; cases hun
      · simp [Array.getElem?_eq_none h'] at hun
theorem WaitsFor.set {sp : Nat → Bool} {listed : Array Bool} {i : Nat} {D : Nat → Bool} (h : WaitsFor md ops sp listed i D) (hr : i ∈ Region.ready md ops listed) {j : Nat} (hj : j ∈ Region.ready md ops listed) : WaitsFor md ops sp (listed.setIfInBounds j true) i D := by
  refine ⟨fun k ok hk hks hki hun => h.1 k ok hk hks hki (unlisted_set hun), fun u hu => ?_⟩
  obtain ⟨h1, h2, h3⟩ := h.2 u hu
  refine ⟨h1, ?_, h3⟩
  have hne : j ≠ u := fun e => by rw [← e, h.not_ready hr hj] at hu; cases hu
  rw [getD_set_ne true hne]; exact h2
/-- one order, step by step -/
inductive Lin (P : Program) (md : Region.Mode) (ops : Array Oper) (Q : Exit → Act → World → Prop) (S : σ → World → Prop) (sp : Nat → Bool) (vals : Nat → Value) : Nat → σ → Array Bool → Act → Prop
  | done {n : Nat} {s : σ} {listed : Array Bool} {a : Act} (hr : Region.ready md ops listed = []) (hQ : ∀ w, S s w → Q .normal a w) : Lin P md ops Q S sp vals n s listed a
  | ord {n : Nat} {s : σ} {listed : Array Bool} {a : Act} (i : Nat) (o : Oper) (hi : ops[i]? = some o) (hr : i ∈ Region.ready md ops listed) (hf : FreeAt md ops listed i o) (hsp : sp i = false)
      (hy : OrdAt P ops S o (vals i) a) (h : Lin P md ops Q S sp vals n s (listed.setIfInBounds i true) (a.put o.dst (vals i))) : Lin P md ops Q S sp vals (n + 1) s listed a
  | spec {n : Nat} {s : σ} {listed : Array Bool} {a : Act} (i : Nat) (o : Oper) (N : Value → σ → Prop) (hi : ops[i]? = some o) (hr : i ∈ Region.ready md ops listed) (hf : FreeAt md ops listed i o) (hsp : sp i = true)
      (hw : ∃ D : Nat → Bool, WaitsFor md ops sp listed i D)
      (hN : ∃ u s', N u s') (hy : SpecAt P ops S s o a N) (h : ∀ u s', N u s' → Lin P md ops Q S sp vals n s' (listed.setIfInBounds i true) (a.put o.dst u)) : Lin P md ops Q S sp vals (n + 1) s listed a

variable (hsel : ∀ (j : Nat) (o : Oper) cs b, ops[j]? = some o → o.op ≠ .select cs b)
include hsel

theorem Lin.first : ∀ (n : Nat) (s : σ) (listed : Array Bool) (a : Act) (j : Nat) (oj : Oper), Lin P md ops Q S sp vals n s listed a → j ∈ Region.ready md ops listed → ops[j]? = some oj → sp j = false →
    OrdAt P ops S oj (vals j) a ∧ ∃ m, n = m + 1 ∧ Lin P md ops Q S sp vals m s (listed.setIfInBounds j true) (a.put oj.dst (vals j)) := by
  intro n
  induction n with
  | zero =>
    intro s listed a j oj hl hj _ _
    cases hl with
    | done hr _ => rw [hr] at hj; cases hj
  | succ n ih =>
    intro s listed a j oj hl hj hoj hsj
    cases hl with
    | done hr _ => rw [hr] at hj; cases hj
    | ord i o hi hr hf hsp hy h =>
      by_cases hji : j = i
      · subst hji
        rw [hi] at hoj
        injection hoj with hoj
        subst hoj
        exact ⟨hy, n, rfl, h⟩
      · obtain ⟨h1, m, rfl, h2⟩ := ih _ _ _ j oj h (ready_mono hj hji) hoj hsj
        obtain ⟨a1, a2, a3⟩ := Oper.apart_spec (hf j oj hoj hji (mem_ready.1 hj).1 (waits_not hr hj hoj))
        refine ⟨h1.unput (fun cs b => hsel j oj cs b hoj) a1, m + 1, rfl, Lin.ord i o hi (ready_mono hr (Ne.symm hji)) hf.set hsp (hy.put (fun cs b => hsel i o cs b hi) a3) ?_⟩
        rw [← Act.put_comm a _ _ a2, Array.setIfInBounds_comm _ _ hji]
        exact h2
    | spec i o N hi hr hf hsp hw hN hy h =>
      have hji : j ≠ i := fun e => by rw [e, hsp] at hsj; cases hsj
      obtain ⟨a1, a2, a3⟩ := Oper.apart_spec (hf j oj hoj hji (mem_ready.1 hj).1 (waits_not hr hj hoj))
      obtain ⟨u0, s0, hN0⟩ := hN
      obtain ⟨h1, m, rfl, _⟩ := ih _ _ _ j oj (h u0 s0 hN0) (ready_mono hj hji) hoj hsj
      refine ⟨h1.unput (fun cs b => hsel j oj cs b hoj) a1, m + 1, rfl, Lin.spec i o N hi (ready_mono hr (Ne.symm hji)) hf.set hsp (hw.imp fun _ hW => hW.set hr hj) ⟨u0, s0, hN0⟩ (hy.put (fun cs b => hsel i o cs b hi) a3) ?_⟩
      intro u s' hus
      obtain ⟨_, m', hm', h2⟩ := ih _ _ _ j oj (h u s' hus) (ready_mono hj hji) hoj hsj
      obtain rfl : m = m' := by omega
      rw [← Act.put_comm a _ _ a2, Array.setIfInBounds_comm _ _ hji]
      exact h2

theorem Lin.turns : ∀ (n : Nat) (s : σ) (listed : Array Bool) (a : Act) (j : Nat) (oj : Oper), Lin P md ops Q S sp vals n s listed a → j ∈ Region.ready md ops listed → ops[j]? = some oj → sp j = true →
    ∃ N, SpecAt P ops S s oj a N ∧ ∃ m, n = m + 1 ∧ ∀ u s', N u s' → Lin P md ops Q S sp vals m s' (listed.setIfInBounds j true) (a.put oj.dst u) := by
  intro n
  induction n with
  | zero =>
    intro s listed a j oj hl hj _ _
    cases hl with
    | done hr _ => rw [hr] at hj; cases hj
  | succ n ih =>
    intro s listed a j oj hl hj hoj hsj
    cases hl with
    | done hr _ => rw [hr] at hj; cases hj
    | ord i o hi hr hf hsp hy h =>
      have hji : j ≠ i := fun e => by rw [e, hsp] at hsj; cases hsj
      obtain ⟨N, h1, m, rfl, h2⟩ := ih _ _ _ j oj h (ready_mono hj hji) hoj hsj
      obtain ⟨a1, a2, a3⟩ := Oper.apart_spec (hf j oj hoj hji (mem_ready.1 hj).1 (waits_not hr hj hoj))
      refine ⟨N, h1.unput (fun cs b => hsel j oj cs b hoj) a1, m + 1, rfl, fun u s' hus => Lin.ord i o hi (ready_mono hr (Ne.symm hji)) hf.set hsp (hy.put (fun cs b => hsel i o cs b hi) a3) ?_⟩
      rw [← Act.put_comm a _ _ a2, Array.setIfInBounds_comm _ _ hji]
      exact h2 u s' hus
    | spec i o N hi hr hf hsp hw hN hy h =>
      by_cases hji : j = i
      · subst hji
        rw [hi] at hoj
        injection hoj with hoj
        subst hoj
        exact ⟨N, hy, n, rfl, h⟩
      · obtain ⟨D, hW⟩ := hw
        have h1 := hW.1 j oj hoj hsj hji (mem_ready.1 hj).1
        rw [hW.not_ready hr hj] at h1
        cases h1

theorem Lin.any : ∀ (n : Nat) (s : σ) (listed : Array Bool) (a : Act) (w : World), Lin P md ops Q S sp vals n s listed a → S s w → wpAny P md ops Q n listed a w := by
  intro n
  induction n with
  | zero =>
    intro s listed a w hl hS
    cases hl with
    | done hr hQ => exact ⟨hr, hQ w hS⟩
  | succ n ih =>
    intro s listed a w hl hS
    refine ⟨fun h => ?_, fun j hj => ?_⟩
    · cases hl with
      | done hr hQ => exact hQ w hS
      | ord i o hi hr => rw [h] at hr; cases hr
      | spec i o N hi hr => rw [h] at hr; cases hr
    · obtain ⟨_, oj, hoj, _⟩ := mem_ready.1 hj
      unfold wpOp
      simp only [hoj]
      cases hsj : sp j with
      | false =>
        obtain ⟨h1, m, hm, h2⟩ := Lin.first hsel _ _ _ _ j oj hl hj hoj hsj
        obtain rfl : n = m := by omega
        rcases h1 with ⟨hw, hg⟩ | ⟨hw, hv⟩
        · rw [if_pos hw]
          refine Or.inl ((hg s w hS).wp fun u w' ⟨hu, hS'⟩ => ?_)
          subst hu
          exact ih _ _ _ _ h2 hS'
        · rw [if_neg (by rw [hw]; exact Bool.false_ne_true)]
          rw [hv] at h2
          exact ih _ _ _ _ h2 hS
      | true =>
        obtain ⟨N, ⟨hw, hg⟩, m, hm, h2⟩ := Lin.turns hsel _ _ _ _ j oj hl hj hoj hsj
        obtain rfl : n = m := by omega
        rw [if_pos hw]
        exact Or.inl ((hg w hS).wp fun u w' ⟨s', hu, hS'⟩ => ih _ _ _ _ (h2 u s' hu) hS')
end

/-! ### the moves of a walk -/
section
variable {P : Program} {ops : Array Oper} {Q : Exit → Act → World → Prop} {σ : Type} {S : σ → World → Prop} {sp : Nat → Bool} {vals : Nat → Value}
/-- the beginning -/
theorem wp_region_lin {id : Nat} {a : Act} {w : World} (S : σ → World → Prop) (sp : Nat → Bool) (vals : Nat → Value) (s : σ) (hm : P.follows .mixedOrders = true) (hs : Region.noSelect ops = true) (hS : S s w.drew)
    (h : Lin P .any ops Q S sp vals ops.size s (Array.replicate ops.size false) a) : (Code.region id ops true).wp P Q a w :=
  wp_region_any hm (Lin.any (Region.noSelect_spec hs) _ _ _ _ _ h hS)
/-- do all others that turn the kind wait for this one? -/
def waitB (ops : Array Oper) (sp : Nat → Bool) (listed : Array Bool) (i : Nat) : Bool :=
  (List.range ops.size).all fun k => k == i || !sp k || listed.getD k true || match ops[k]? with
    | some ok => ok.after.any fun e => Region.binds .any e && e.on == i
    | none => true
theorem waitB_spec {listed : Array Bool} {i : Nat} (h : waitB ops sp listed i = true) (k : Nat) (ok : Oper) (hk : ops[k]? = some ok) (hs : sp k = true) (hne : k ≠ i) (hun : listed.getD k true = false) : ∃ e ∈ ok.after, Region.binds .any e = true ∧ e.on = i := by
  simp only [waitB, List.all_eq_true, List.mem_range] at h
  have h1 := h k (Array.getElem?_eq_some_iff.1 hk).1
  simp only [hk, Bool.or_eq_true, beq_iff_eq, hne, false_or, hun, hs, Bool.not_true, Bool.false_eq_true] at h1
  obtain ⟨e, he, hb⟩ := Array.any_eq_true'.1 h1
  simp only [Bool.and_eq_true, beq_iff_eq] at hb
  exact ⟨e, he, hb.1, hb.2⟩
theorem waits_direct {listed : Array Bool} {i : Nat} (h : waitB ops sp listed i = true) : WaitsFor .any ops sp listed i (fun k => decide (k < ops.size) && sp k && !(k == i) && !listed.getD k true) := by
  refine ⟨fun k ok hk hs hne hun => ?_, fun u hu => ?_⟩
  · have := (Array.getElem?_eq_some_iff.1 hk).1
    simp [this, hs, hun, hne]
  · simp only [Bool.and_eq_true, decide_eq_true_eq, Bool.not_eq_true', beq_eq_false_iff_ne] at hu
    obtain ⟨⟨⟨h1, h2⟩, h3⟩, h4⟩ := hu
    obtain ⟨e, he, hb, hon⟩ := waitB_spec h u _ (Array.getElem?_eq_getElem h1) h2 h3 h4
    exact ⟨h3, h4, _, Array.getElem?_eq_getElem h1, e, he, hb, Or.inl hon⟩
theorem lin_step {n : Nat} {s : σ} {listed : Array Bool} {a : Act} {i : Nat} {o : Oper} {v : Value} {d : Option Tmp} (hi : ops[i]? = some o) (hd : o.dst = d) (hr : (Region.ready .any ops listed).contains i = true) (hf : Region.free .any ops listed i = true) (hsp : sp i = false) (hv : vals i = v)
    (hy : OrdAt P ops S o v a) (h : Lin P .any ops Q S sp vals n s (listed.setIfInBounds i true) (a.put d v)) : Lin P .any ops Q S sp vals (n + 1) s listed a :=
  Lin.ord i o hi (by simpa using hr) (Region.free_spec hi hf) hsp (hv ▸ hy) (by rw [hd, hv]; exact h)
theorem lin_turn {n : Nat} {s : σ} {listed : Array Bool} {a : Act} {i : Nat} {o : Oper} {d : Option Tmp} (N : Value → σ → Prop) (hi : ops[i]? = some o) (hd : o.dst = d) (hr : (Region.ready .any ops listed).contains i = true) (hf : Region.free .any ops listed i = true) (hsp : sp i = true)
    (hw : waitB ops sp listed i = true) (hN : ∃ u s', N u s') (hwa : Region.wanted o (yielded ops a.tmps) = true) (hy : ∀ w, S s w → Gives P (execOp a.eval o) w fun u w' => ∃ s', N u s' ∧ S s' w')
    (h : ∀ u s', N u s' → Lin P .any ops Q S sp vals n s' (listed.setIfInBounds i true) (a.put d u)) : Lin P .any ops Q S sp vals (n + 1) s listed a :=
  Lin.spec i o N hi (by simpa using hr) (Region.free_spec hi hf) hsp ⟨_, waits_direct hw⟩ hN ⟨hwa, hy⟩ (by rw [hd]; exact h)
/-- the same, where D is told -/
def waitD (ops : Array Oper) (sp : Nat → Bool) (listed : Array Bool) (i : Nat) (D : List Nat) : Bool :=
  ((List.range ops.size).all fun k => k == i || !sp k || listed.getD k true || D.contains k) &&
  D.all fun u => !(u == i) && !listed.getD u true && match ops[u]? with
    | some ou => ou.after.any fun e => Region.binds .any e && (e.on == i || D.contains e.on)
    | none => false
theorem waitD_spec {listed : Array Bool} {i : Nat} {D : List Nat} (h : waitD ops sp listed i D = true) : WaitsFor .any ops sp listed i (fun u => D.contains u) := by
  simp only [waitD, Bool.and_eq_true] at h
  obtain ⟨h1, h2⟩ := h
  simp only [List.all_eq_true, List.mem_range] at h1 h2
  refine ⟨fun k ok hk hs hne hun => ?_, fun u hu => ?_⟩
  · have h3 := h1 k (Array.getElem?_eq_some_iff.1 hk).1
    simp only [Bool.or_eq_true, beq_iff_eq, hne, false_or, hun, hs, Bool.not_true, Bool.false_eq_true] at h3
    exact h3
  · have h3 := h2 u (by simpa using hu)
    simp only [Bool.and_eq_true, Bool.not_eq_true', beq_eq_false_iff_ne] at h3
    obtain ⟨⟨h4, h5⟩, h6⟩ := h3
    cases ho : ops[u]? with
    | none => rw [ho] at h6; cases h6
    | some ou =>
      rw [ho] at h6
      obtain ⟨e, he, hb⟩ := Array.any_eq_true'.1 h6
      simp only [Bool.and_eq_true, Bool.or_eq_true, beq_iff_eq] at hb
      exact ⟨h4, h5, ou, rfl, e, he, hb.1, hb.2⟩
theorem lin_turnD {n : Nat} {s : σ} {listed : Array Bool} {a : Act} {i : Nat} {o : Oper} {d : Option Tmp} (D : List Nat) (N : Value → σ → Prop) (hi : ops[i]? = some o) (hd : o.dst = d) (hr : (Region.ready .any ops listed).contains i = true) (hf : Region.free .any ops listed i = true) (hsp : sp i = true)
    (hw : waitD ops sp listed i D = true) (hN : ∃ u s', N u s') (hwa : Region.wanted o (yielded ops a.tmps) = true) (hy : ∀ w, S s w → Gives P (execOp a.eval o) w fun u w' => ∃ s', N u s' ∧ S s' w')
    (h : ∀ u s', N u s' → Lin P .any ops Q S sp vals n s' (listed.setIfInBounds i true) (a.put d u)) : Lin P .any ops Q S sp vals (n + 1) s listed a :=
  Lin.spec i o N hi (by simpa using hr) (Region.free_spec hi hf) hsp ⟨_, waitD_spec hw⟩ hN ⟨hwa, hy⟩ (by rw [hd]; exact h)
theorem lin_done {n : Nat} {s : σ} {listed : Array Bool} {a : Act} (hr : Region.ready .any ops listed = []) (hQ : ∀ w, S s w → Q .normal a w) : Lin P .any ops Q S sp vals n s listed a := Lin.done hr hQ
/-- an operation that looks at no memory, or at what every world of these kinds holds -/
theorem ord_value {o : Oper} {v : Value} {a : Act} (hw : Region.wanted o (yielded ops a.tmps) = true) (h : ∀ s w, S s w → (execOp a.eval o).run P w = .ok (.value v) w) : OrdAt P ops S o v a :=
  Or.inl ⟨hw, fun s w hS => gives_value (h s w hS) ⟨rfl, hS⟩⟩
theorem ord_skip {o : Oper} {a : Act} (hw : Region.wanted o (yielded ops a.tmps) = false) : OrdAt P ops S o undef a := Or.inr ⟨hw, rfl⟩
theorem ord_call {o : Oper} {v : Value} {a : Act} {f : FuncId} {args : Array Value} (hw : Region.wanted o (yielded ops a.tmps) = true) (hop : ∀ w, (execOp a.eval o).run P w = .ok (.enter f args) w)
    (h : ∀ s w, S s w → Calls P f args w fun e w' => e = .returned v ∧ S s w') : OrdAt P ops S o v a :=
  Or.inl ⟨hw, fun s w hS => gives_call (hop w) ((h s w hS).mono fun _ _ ⟨he, hS'⟩ => ⟨v, he, rfl, hS'⟩)⟩
end
end Go.Proofs.Ytkomehplcacbcaa
