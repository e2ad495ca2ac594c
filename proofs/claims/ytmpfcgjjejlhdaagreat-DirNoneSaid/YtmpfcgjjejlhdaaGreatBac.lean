/- Texts of the proof. -/
import Derived.Test.YtmpfcgjjejlhdaaGreatRows
import Derived.Orders
import Derived.WalkKit
import Derived.Test.YtmpfcgjjejlhdaaGreatBab
import Derived.IntWalk
import Derived.Test.YtmpfcgjjejlhdaaGreatBaa
import Derived.WalkSpells
import Derived.WalkLawsBesides
import Derived.Laws.BitsAllLaws
import Derived.Lib.Hide
set_option maxRecDepth 100000
set_option maxHeartbeats 16000000
namespace Go.Proofs.YtmpfcgjjejlhdaaGreat
section
open Go.RowKit
section
variable {P : Program} {ops : Array Oper} {Q : Exit → Act → World → Prop} {md : Region.Mode} {σ : Type} {S : σ → World → Prop} {sp : Nat → Bool} {vals : Nat → Value}
def Gives (P : Program) (m : Sem Next) (w : World) (R : Value → World → Prop) : Prop :=
  match m.run P w with
  | .ok (.value u) w' => R u w'
  | .ok .skip w' => R undef w'
  | .ok (.enter f args) w' => Calls P f args w' fun e w'' => ∃ u, e = .returned u ∧ R u w''
  | _ => False
theorem Gives.mono {m : Sem Next} {w : World} {R R' : Value → World → Prop} (h : Gives P m w R) (hr : ∀ u w', R u w' → R' u w') : Gives P m w R' := by
  unfold Gives at *
  generalize m.run P w = r at *
  cases r with
  | halt x w' => exact h
  | ok n w' =>
    cases n <;> simp only at h ⊢
    case value u => exact hr _ _ h
    case skip => exact hr _ _ h
    case enter f args => exact h.mono fun e w'' ⟨u, hu, hR⟩ => ⟨u, hu, hr _ _ hR⟩
theorem Gives.wp {o : Oper} {a : Act} {w : World} {R : Value → World → Prop} {K : Act → World → Prop} (h : Gives P (execOp a.eval o) w R) (hK : ∀ u w', R u w' → K (a.put o.dst u) w') : Oper.wp P o a w K Q := by
  unfold Gives at h
  unfold Oper.wp
  generalize (execOp a.eval o).run P w = r at *
  cases r with
  | halt x w' => exact h.elim
  | ok n w' =>
    cases n <;> simp only [Oper.upon] at h ⊢
    case value u => exact hK _ _ h
    case skip => exact hK _ _ h
    case enter f args =>
      refine h.mono fun e w'' ⟨u, hu, hR⟩ => ?_
      subst hu
      exact hK _ _ hR
theorem gives_value {m : Sem Next} {w : World} {R : Value → World → Prop} {v : Value} (h : m.run P w = .ok (.value v) w) (hR : R v w) : Gives P m w R := by
  unfold Gives; rw [h]; exact hR
theorem gives_to {m : Sem Next} {w w' : World} {R : Value → World → Prop} {v : Value} (h : m.run P w = .ok (.value v) w') (hR : R v w') : Gives P m w R := by
  unfold Gives; rw [h]; exact hR
theorem gives_call {m : Sem Next} {w : World} {R : Value → World → Prop} {f : FuncId} {args : Array Value} (h : m.run P w = .ok (.enter f args) w) (hR : Calls P f args w fun e w'' => ∃ u, e = .returned u ∧ R u w'') : Gives P m w R := by
  unfold Gives; rw [h]; exact hR
def OrdAt (P : Program) (ops : Array Oper) (S : σ → World → Prop) (o : Oper) (v : Value) (a : Act) : Prop :=
  (Region.wanted o (yielded ops a.tmps) = true ∧ ∀ s w, S s w → Gives P (execOp a.eval o) w fun u w' => u = v ∧ S s w') ∨
  (Region.wanted o (yielded ops a.tmps) = false ∧ v = undef)
def SpecAt (P : Program) (ops : Array Oper) (S : σ → World → Prop) (s : σ) (o : Oper) (a : Act) (N : Value → σ → Prop) : Prop :=
  Region.wanted o (yielded ops a.tmps) = true ∧ ∀ w, S s w → Gives P (execOp a.eval o) w fun u w' => ∃ s', N u s' ∧ S s' w'
theorem OrdAt.put {oi oj : Oper} {v u : Value} {a : Act} (hs : ∀ cs b, oi.op ≠ .select cs b) (h : ∀ d, oj.dst = some d → d ∉ oi.looksAt ops) (hy : OrdAt P ops S oi v a) : OrdAt P ops S oi v (a.put oj.dst u) := by
  unfold OrdAt at *
  rw [execOp_put oi hs a oj.dst u h, wanted_put oi a oj.dst u h]
  exact hy
theorem OrdAt.unput {oi oj : Oper} {v u : Value} {a : Act} (hs : ∀ cs b, oj.op ≠ .select cs b) (h : ∀ d, oi.dst = some d → d ∉ oj.looksAt ops) (hy : OrdAt P ops S oj v (a.put oi.dst u)) : OrdAt P ops S oj v a := by
  unfold OrdAt at *
  rw [execOp_put oj hs a oi.dst u h, wanted_put oj a oi.dst u h] at hy
  exact hy
theorem SpecAt.put {oi oj : Oper} {s : σ} {u : Value} {N : Value → σ → Prop} {a : Act} (hs : ∀ cs b, oi.op ≠ .select cs b) (h : ∀ d, oj.dst = some d → d ∉ oi.looksAt ops) (hy : SpecAt P ops S s oi a N) : SpecAt P ops S s oi (a.put oj.dst u) N := by
  unfold SpecAt at *
  rw [execOp_put oi hs a oj.dst u h, wanted_put oi a oj.dst u h]
  exact hy
theorem SpecAt.unput {oi oj : Oper} {s : σ} {u : Value} {N : Value → σ → Prop} {a : Act} (hs : ∀ cs b, oj.op ≠ .select cs b) (h : ∀ d, oi.dst = some d → d ∉ oj.looksAt ops) (hy : SpecAt P ops S s oj (a.put oi.dst u) N) : SpecAt P ops S s oj a N := by
  unfold SpecAt at *
  rw [execOp_put oj hs a oi.dst u h, wanted_put oj a oi.dst u h] at hy
  exact hy
def FreeAt (md : Region.Mode) (ops : Array Oper) (listed : Array Bool) (i : Nat) (oi : Oper) : Prop :=
  ∀ j oj, ops[j]? = some oj → j ≠ i → listed.getD j true = false → (∀ e ∈ oj.after, Region.binds md e = true → e.on ≠ i) → oi.apart ops oj = true
theorem unlisted_set {listed : Array Bool} {j k : Nat} (h : (listed.setIfInBounds j true).getD k true = false) : listed.getD k true = false := by
  by_cases hjk : j = k
  · subst hjk
    rcases Nat.lt_or_ge j listed.size with h' | h'
    · simp [h'] at h
    · simp at h
  · rw [getD_set_ne true hjk] at h; exact h
theorem FreeAt.set {listed : Array Bool} {i j : Nat} {oi : Oper} (h : FreeAt md ops listed i oi) : FreeAt md ops (listed.setIfInBounds j true) i oi :=
  fun k ok hk hki hun hno => h k ok hk hki (unlisted_set hun) hno
theorem waits_not {listed : Array Bool} {i j : Nat} {oj : Oper} (hr : i ∈ Region.ready md ops listed) (hj : j ∈ Region.ready md ops listed) (hoj : ops[j]? = some oj) : ∀ e ∈ oj.after, Region.binds md e = true → e.on ≠ i := by
  intro e he hb heq
  obtain ⟨_, o, ho, hall⟩ := mem_ready.1 hj
  rw [hoj] at ho
  injection ho with ho
  subst ho
  have h1 := hall e he hb
  have h0 := (mem_ready.1 hr).1
  rw [heq] at h1
  rcases Nat.lt_or_ge i listed.size with h' | h'
  · simp [h'] at h0 h1; rw [h0] at h1; cases h1
  · simp [Array.getElem?_eq_none h'] at h1
def WaitsFor (md : Region.Mode) (ops : Array Oper) (sp : Nat → Bool) (listed : Array Bool) (i : Nat) (D : Nat → Bool) : Prop :=
  (∀ k ok, ops[k]? = some ok → sp k = true → k ≠ i → listed.getD k true = false → D k = true) ∧
  (∀ u, D u = true → u ≠ i ∧ listed.getD u true = false ∧ ∃ ou, ops[u]? = some ou ∧ ∃ e ∈ ou.after, Region.binds md e = true ∧ (e.on = i ∨ D e.on = true))
theorem WaitsFor.not_ready {sp : Nat → Bool} {listed : Array Bool} {i : Nat} {D : Nat → Bool} (h : WaitsFor md ops sp listed i D) (hr : i ∈ Region.ready md ops listed) {j : Nat} (hj : j ∈ Region.ready md ops listed) : D j = false := by
  cases hD : D j with
  | false => rfl
  | true =>
    exfalso
    obtain ⟨_, _, ou, hou, e, he, hb, hon⟩ := h.2 j hD
    rcases hon with hon | hon
    · exact waits_not hr hj hou e he hb hon
    · obtain ⟨_, hun, ou2, hou2, _⟩ := h.2 e.on hon
      obtain ⟨_, o, ho, hall⟩ := mem_ready.1 hj
      rw [hou] at ho
      injection ho with ho
      subst ho
      have h1 := hall e he hb
      rcases Nat.lt_or_ge e.on listed.size with h' | h'
      · simp [h'] at h1 hun; rw [h1] at hun; cases hun
      · simp [Array.getElem?_eq_none h'] at hun
theorem WaitsFor.set {sp : Nat → Bool} {listed : Array Bool} {i : Nat} {D : Nat → Bool} (h : WaitsFor md ops sp listed i D) (hr : i ∈ Region.ready md ops listed) {j : Nat} (hj : j ∈ Region.ready md ops listed) : WaitsFor md ops sp (listed.setIfInBounds j true) i D := by
  refine ⟨fun k ok hk hks hki hun => h.1 k ok hk hks hki (unlisted_set hun), fun u hu => ?_⟩
  obtain ⟨h1, h2, h3⟩ := h.2 u hu
  refine ⟨h1, ?_, h3⟩
  have hne : j ≠ u := fun e => by rw [← e, h.not_ready hr hj] at hu; cases hu
  rw [getD_set_ne true hne]; exact h2
inductive Lin (P : Program) (md : Region.Mode) (ops : Array Oper) (Q : Exit → Act → World → Prop) (S : σ → World → Prop) (sp : Nat → Bool) (vals : Nat → Value) : Nat → σ → Array Bool → Act → Prop
  | done {n : Nat} {s : σ} {listed : Array Bool} {a : Act} (hr : Region.ready md ops listed = []) (hQ : ∀ w, S s w → Q .normal a w) : Lin P md ops Q S sp vals n s listed a
  | ord {n : Nat} {s : σ} {listed : Array Bool} {a : Act} (i : Nat) (o : Oper) (hi : ops[i]? = some o) (hr : i ∈ Region.ready md ops listed) (hf : FreeAt md ops listed i o) (hsp : sp i = false)
      (hy : OrdAt P ops S o (vals i) a) (h : Lin P md ops Q S sp vals n s (listed.setIfInBounds i true) (a.put o.dst (vals i))) : Lin P md ops Q S sp vals (n + 1) s listed a
  | spec {n : Nat} {s : σ} {listed : Array Bool} {a : Act} (i : Nat) (o : Oper) (N : Value → σ → Prop) (hi : ops[i]? = some o) (hr : i ∈ Region.ready md ops listed) (hf : FreeAt md ops listed i o) (hsp : sp i = true)
      (hw : ∃ D : Nat → Bool, WaitsFor md ops sp listed i D)
      (hN : ∃ u s', N u s') (hy : SpecAt P ops S s o a N) (h : ∀ u s', N u s' → Lin P md ops Q S sp vals n s' (listed.setIfInBounds i true) (a.put o.dst u)) : Lin P md ops Q S sp vals (n + 1) s listed a
variable (hsel : ∀ (j : Nat) (o : Oper) cs b, ops[j]? = some o → o.op ≠ .select cs b)
include hsel
theorem Lin.first : ∀ (n : Nat) (s : σ) (listed : Array Bool) (a : Act) (j : Nat) (oj : Oper), Lin P md ops Q S sp vals n s listed a → j ∈ Region.ready md ops listed → ops[j]? = some oj → sp j = false →
    OrdAt P ops S oj (vals j) a ∧ ∃ m, n = m + 1 ∧ Lin P md ops Q S sp vals m s (listed.setIfInBounds j true) (a.put oj.dst (vals j)) := by
  intro n
  induction n with
  | zero =>
    intro s listed a j oj hl hj _ _
    cases hl with
    | done hr _ => rw [hr] at hj; cases hj
  | succ n ih =>
    intro s listed a j oj hl hj hoj hsj
    cases hl with
    | done hr _ => rw [hr] at hj; cases hj
    | ord i o hi hr hf hsp hy h =>
      by_cases hji : j = i
      · subst hji
        rw [hi] at hoj
        injection hoj with hoj
        subst hoj
        exact ⟨hy, n, rfl, h⟩
      · obtain ⟨h1, m, rfl, h2⟩ := ih _ _ _ j oj h (ready_mono hj hji) hoj hsj
        obtain ⟨a1, a2, a3⟩ := Oper.apart_spec (hf j oj hoj hji (mem_ready.1 hj).1 (waits_not hr hj hoj))
        refine ⟨h1.unput (fun cs b => hsel j oj cs b hoj) a1, m + 1, rfl, Lin.ord i o hi (ready_mono hr (Ne.symm hji)) hf.set hsp (hy.put (fun cs b => hsel i o cs b hi) a3) ?_⟩
        rw [← Act.put_comm a _ _ a2, Array.setIfInBounds_comm _ _ hji]
        exact h2
    | spec i o N hi hr hf hsp hw hN hy h =>
      have hji : j ≠ i := fun e => by rw [e, hsp] at hsj; cases hsj
      obtain ⟨a1, a2, a3⟩ := Oper.apart_spec (hf j oj hoj hji (mem_ready.1 hj).1 (waits_not hr hj hoj))
      obtain ⟨u0, s0, hN0⟩ := hN
      obtain ⟨h1, m, rfl, _⟩ := ih _ _ _ j oj (h u0 s0 hN0) (ready_mono hj hji) hoj hsj
      refine ⟨h1.unput (fun cs b => hsel j oj cs b hoj) a1, m + 1, rfl, Lin.spec i o N hi (ready_mono hr (Ne.symm hji)) hf.set hsp (hw.imp fun _ hW => hW.set hr hj) ⟨u0, s0, hN0⟩ (hy.put (fun cs b => hsel i o cs b hi) a3) ?_⟩
      intro u s' hus
      obtain ⟨_, m', hm', h2⟩ := ih _ _ _ j oj (h u s' hus) (ready_mono hj hji) hoj hsj
      obtain rfl : m = m' := by omega
      rw [← Act.put_comm a _ _ a2, Array.setIfInBounds_comm _ _ hji]
      exact h2
theorem Lin.turns : ∀ (n : Nat) (s : σ) (listed : Array Bool) (a : Act) (j : Nat) (oj : Oper), Lin P md ops Q S sp vals n s listed a → j ∈ Region.ready md ops listed → ops[j]? = some oj → sp j = true →
    ∃ N, SpecAt P ops S s oj a N ∧ ∃ m, n = m + 1 ∧ ∀ u s', N u s' → Lin P md ops Q S sp vals m s' (listed.setIfInBounds j true) (a.put oj.dst u) := by
  intro n
  induction n with
  | zero =>
    intro s listed a j oj hl hj _ _
    cases hl with
    | done hr _ => rw [hr] at hj; cases hj
  | succ n ih =>
    intro s listed a j oj hl hj hoj hsj
    cases hl with
    | done hr _ => rw [hr] at hj; cases hj
    | ord i o hi hr hf hsp hy h =>
      have hji : j ≠ i := fun e => by rw [e, hsp] at hsj; cases hsj
      obtain ⟨N, h1, m, rfl, h2⟩ := ih _ _ _ j oj h (ready_mono hj hji) hoj hsj
      obtain ⟨a1, a2, a3⟩ := Oper.apart_spec (hf j oj hoj hji (mem_ready.1 hj).1 (waits_not hr hj hoj))
      refine ⟨N, h1.unput (fun cs b => hsel j oj cs b hoj) a1, m + 1, rfl, fun u s' hus => Lin.ord i o hi (ready_mono hr (Ne.symm hji)) hf.set hsp (hy.put (fun cs b => hsel i o cs b hi) a3) ?_⟩
      rw [← Act.put_comm a _ _ a2, Array.setIfInBounds_comm _ _ hji]
      exact h2 u s' hus
    | spec i o N hi hr hf hsp hw hN hy h =>
      by_cases hji : j = i
      · subst hji
        rw [hi] at hoj
        injection hoj with hoj
        subst hoj
        exact ⟨N, hy, n, rfl, h⟩
      · obtain ⟨D, hW⟩ := hw
        have h1 := hW.1 j oj hoj hsj hji (mem_ready.1 hj).1
        rw [hW.not_ready hr hj] at h1
        cases h1
theorem Lin.any : ∀ (n : Nat) (s : σ) (listed : Array Bool) (a : Act) (w : World), Lin P md ops Q S sp vals n s listed a → S s w → wpAny P md ops Q n listed a w := by
  intro n
  induction n with
  | zero =>
    intro s listed a w hl hS
    cases hl with
    | done hr hQ => exact ⟨hr, hQ w hS⟩
  | succ n ih =>
    intro s listed a w hl hS
    refine ⟨fun h => ?_, fun j hj => ?_⟩
    · cases hl with
      | done hr hQ => exact hQ w hS
      | ord i o hi hr => rw [h] at hr; cases hr
      | spec i o N hi hr => rw [h] at hr; cases hr
    · obtain ⟨_, oj, hoj, _⟩ := mem_ready.1 hj
      unfold wpOp
      simp only [hoj]
      cases hsj : sp j with
      | false =>
        obtain ⟨h1, m, hm, h2⟩ := Lin.first hsel _ _ _ _ j oj hl hj hoj hsj
        obtain rfl : n = m := by omega
        rcases h1 with ⟨hw, hg⟩ | ⟨hw, hv⟩
        · rw [if_pos hw]
          refine Or.inl ((hg s w hS).wp fun u w' ⟨hu, hS'⟩ => ?_)
          subst hu
          exact ih _ _ _ _ h2 hS'
        · rw [if_neg (by rw [hw]; exact Bool.false_ne_true)]
          rw [hv] at h2
          exact ih _ _ _ _ h2 hS
      | true =>
        obtain ⟨N, ⟨hw, hg⟩, m, hm, h2⟩ := Lin.turns hsel _ _ _ _ j oj hl hj hoj hsj
        obtain rfl : n = m := by omega
        rw [if_pos hw]
        exact Or.inl ((hg w hS).wp fun u w' ⟨s', hu, hS'⟩ => ih _ _ _ _ (h2 u s' hu) hS')
end
section
variable {P : Program} {ops : Array Oper} {Q : Exit → Act → World → Prop} {σ : Type} {S : σ → World → Prop} {sp : Nat → Bool} {vals : Nat → Value}
theorem wp_region_lin {id : Nat} {a : Act} {w : World} (S : σ → World → Prop) (sp : Nat → Bool) (vals : Nat → Value) (s : σ) (hm : P.follows .mixedOrders = true) (hs : Region.noSelect ops = true) (hS : S s w.drew)
    (h : Lin P .any ops Q S sp vals ops.size s (Array.replicate ops.size false) a) : (Code.region id ops true).wp P Q a w :=
  wp_region_any hm (Lin.any (Region.noSelect_spec hs) _ _ _ _ _ h hS)
def waitB (ops : Array Oper) (sp : Nat → Bool) (listed : Array Bool) (i : Nat) : Bool :=
  (List.range ops.size).all fun k => k == i || !sp k || listed.getD k true || match ops[k]? with
    | some ok => ok.after.any fun e => Region.binds .any e && e.on == i
    | none => true
theorem waitB_spec {listed : Array Bool} {i : Nat} (h : waitB ops sp listed i = true) (k : Nat) (ok : Oper) (hk : ops[k]? = some ok) (hs : sp k = true) (hne : k ≠ i) (hun : listed.getD k true = false) : ∃ e ∈ ok.after, Region.binds .any e = true ∧ e.on = i := by
  simp only [waitB, List.all_eq_true, List.mem_range] at h
  have h1 := h k (Array.getElem?_eq_some_iff.1 hk).1
  simp only [hk, Bool.or_eq_true, beq_iff_eq, hne, false_or, hun, hs, Bool.not_true, Bool.false_eq_true] at h1
  obtain ⟨e, he, hb⟩ := Array.any_eq_true'.1 h1
  simp only [Bool.and_eq_true, beq_iff_eq] at hb
  exact ⟨e, he, hb.1, hb.2⟩
theorem waits_direct {listed : Array Bool} {i : Nat} (h : waitB ops sp listed i = true) : WaitsFor .any ops sp listed i (fun k => decide (k < ops.size) && sp k && !(k == i) && !listed.getD k true) := by
  refine ⟨fun k ok hk hs hne hun => ?_, fun u hu => ?_⟩
  · have := (Array.getElem?_eq_some_iff.1 hk).1
    simp [this, hs, hun, hne]
  · simp only [Bool.and_eq_true, decide_eq_true_eq, Bool.not_eq_true', beq_eq_false_iff_ne] at hu
    obtain ⟨⟨⟨h1, h2⟩, h3⟩, h4⟩ := hu
    obtain ⟨e, he, hb, hon⟩ := waitB_spec h u _ (Array.getElem?_eq_getElem h1) h2 h3 h4
    exact ⟨h3, h4, _, Array.getElem?_eq_getElem h1, e, he, hb, Or.inl hon⟩
theorem lin_step {n : Nat} {s : σ} {listed : Array Bool} {a : Act} {i : Nat} {o : Oper} {v : Value} {d : Option Tmp} (hi : ops[i]? = some o) (hd : o.dst = d) (hr : (Region.ready .any ops listed).contains i = true) (hf : Region.free .any ops listed i = true) (hsp : sp i = false) (hv : vals i = v)
    (hy : OrdAt P ops S o v a) (h : Lin P .any ops Q S sp vals n s (listed.setIfInBounds i true) (a.put d v)) : Lin P .any ops Q S sp vals (n + 1) s listed a :=
  Lin.ord i o hi (by simpa using hr) (Region.free_spec hi hf) hsp (hv ▸ hy) (by rw [hd, hv]; exact h)
theorem lin_turn {n : Nat} {s : σ} {listed : Array Bool} {a : Act} {i : Nat} {o : Oper} {d : Option Tmp} (N : Value → σ → Prop) (hi : ops[i]? = some o) (hd : o.dst = d) (hr : (Region.ready .any ops listed).contains i = true) (hf : Region.free .any ops listed i = true) (hsp : sp i = true)
    (hw : waitB ops sp listed i = true) (hN : ∃ u s', N u s') (hwa : Region.wanted o (yielded ops a.tmps) = true) (hy : ∀ w, S s w → Gives P (execOp a.eval o) w fun u w' => ∃ s', N u s' ∧ S s' w')
    (h : ∀ u s', N u s' → Lin P .any ops Q S sp vals n s' (listed.setIfInBounds i true) (a.put d u)) : Lin P .any ops Q S sp vals (n + 1) s listed a :=
  Lin.spec i o N hi (by simpa using hr) (Region.free_spec hi hf) hsp ⟨_, waits_direct hw⟩ hN ⟨hwa, hy⟩ (by rw [hd]; exact h)
def waitD (ops : Array Oper) (sp : Nat → Bool) (listed : Array Bool) (i : Nat) (D : List Nat) : Bool :=
  ((List.range ops.size).all fun k => k == i || !sp k || listed.getD k true || D.contains k) &&
  D.all fun u => !(u == i) && !listed.getD u true && match ops[u]? with
    | some ou => ou.after.any fun e => Region.binds .any e && (e.on == i || D.contains e.on)
    | none => false
theorem waitD_spec {listed : Array Bool} {i : Nat} {D : List Nat} (h : waitD ops sp listed i D = true) : WaitsFor .any ops sp listed i (fun u => D.contains u) := by
  simp only [waitD, Bool.and_eq_true] at h
  obtain ⟨h1, h2⟩ := h
  simp only [List.all_eq_true, List.mem_range] at h1 h2
  refine ⟨fun k ok hk hs hne hun => ?_, fun u hu => ?_⟩
  · have h3 := h1 k (Array.getElem?_eq_some_iff.1 hk).1
    simp only [Bool.or_eq_true, beq_iff_eq, hne, false_or, hun, hs, Bool.not_true, Bool.false_eq_true] at h3
    exact h3
  · have h3 := h2 u (by simpa using hu)
    simp only [Bool.and_eq_true, Bool.not_eq_true', beq_eq_false_iff_ne] at h3
    obtain ⟨⟨h4, h5⟩, h6⟩ := h3
    cases ho : ops[u]? with
    | none => rw [ho] at h6; cases h6
    | some ou =>
      rw [ho] at h6
      obtain ⟨e, he, hb⟩ := Array.any_eq_true'.1 h6
      simp only [Bool.and_eq_true, Bool.or_eq_true, beq_iff_eq] at hb
      exact ⟨h4, h5, ou, rfl, e, he, hb.1, hb.2⟩
theorem lin_turnD {n : Nat} {s : σ} {listed : Array Bool} {a : Act} {i : Nat} {o : Oper} {d : Option Tmp} (D : List Nat) (N : Value → σ → Prop) (hi : ops[i]? = some o) (hd : o.dst = d) (hr : (Region.ready .any ops listed).contains i = true) (hf : Region.free .any ops listed i = true) (hsp : sp i = true)
    (hw : waitD ops sp listed i D = true) (hN : ∃ u s', N u s') (hwa : Region.wanted o (yielded ops a.tmps) = true) (hy : ∀ w, S s w → Gives P (execOp a.eval o) w fun u w' => ∃ s', N u s' ∧ S s' w')
    (h : ∀ u s', N u s' → Lin P .any ops Q S sp vals n s' (listed.setIfInBounds i true) (a.put d u)) : Lin P .any ops Q S sp vals (n + 1) s listed a :=
  Lin.spec i o N hi (by simpa using hr) (Region.free_spec hi hf) hsp ⟨_, waitD_spec hw⟩ hN ⟨hwa, hy⟩ (by rw [hd]; exact h)
theorem lin_done {n : Nat} {s : σ} {listed : Array Bool} {a : Act} (hr : Region.ready .any ops listed = []) (hQ : ∀ w, S s w → Q .normal a w) : Lin P .any ops Q S sp vals n s listed a := Lin.done hr hQ
theorem ord_value {o : Oper} {v : Value} {a : Act} (hw : Region.wanted o (yielded ops a.tmps) = true) (h : ∀ s w, S s w → (execOp a.eval o).run P w = .ok (.value v) w) : OrdAt P ops S o v a :=
  Or.inl ⟨hw, fun s w hS => gives_value (h s w hS) ⟨rfl, hS⟩⟩
theorem ord_skip {o : Oper} {a : Act} (hw : Region.wanted o (yielded ops a.tmps) = false) : OrdAt P ops S o undef a := Or.inr ⟨hw, rfl⟩
theorem ord_call {o : Oper} {v : Value} {a : Act} {f : FuncId} {args : Array Value} (hw : Region.wanted o (yielded ops a.tmps) = true) (hop : ∀ w, (execOp a.eval o).run P w = .ok (.enter f args) w)
    (h : ∀ s w, S s w → Calls P f args w fun e w' => e = .returned v ∧ S s w') : OrdAt P ops S o v a :=
  Or.inl ⟨hw, fun s w hS => gives_call (hop w) ((h s w hS).mono fun _ _ ⟨he, hS'⟩ => ⟨v, he, rfl, hS'⟩)⟩
end
end

section
open Go.RowKit
open Dk (zeros zeros_length)
open Hd (Head rightB pageH)
structure RowAt (w : World) (b : Nat) (vs : List Value) : Prop where
  range : w.rangeAt b 0 vs
  free : w.there b 0 vs.length
theorem RowAt.cell {w : World} {b : Nat} {vs : List Value} (h : RowAt w b vs) (j : Nat) (v : Value) (hv : vs[j]? = some v) : w.cell? ⟨b, j, none⟩ = some v := by
  have := h.range j v hv
  rwa [Nat.zero_add] at this
theorem RowAt.lt {w : World} {b : Nat} {v : Value} {vs : List Value} (h : RowAt w b (v :: vs)) : b < w.heap.size := World.block_lt_of_cell? w _ (h.cell 0 v rfl)
theorem rowAt_new (w : World) (vs : List Value) (t : TypeId) : RowAt (w.alloc (.cells vs.toArray t)) w.heap.size vs where
  range := fun j v hv => by
    rw [Nat.zero_add, World.cell?_alloc_mark]
    simpa using hv
  free := there_new w _ t _ (by rw [List.size_toArray]; exact Nat.le_refl _)
theorem RowAt.alloc {w : World} {b : Nat} {vs : List Value} (h : RowAt w b vs) (o : Obj) : RowAt (w.alloc o) b vs := ⟨World.rangeAt_alloc h.range o, World.there_alloc h.free o⟩
theorem RowAt.drew {w : World} {b : Nat} {vs : List Value} (h : RowAt w b vs) : RowAt w.drew b vs := ⟨(World.rangeAt_drew ..).2 h.range, (World.there_drew ..).2 h.free⟩
theorem RowAt.below {n : Nat} {w w' : World} {b : Nat} {vs : List Value} (h : RowAt w b vs) (hb : Below n w w') (hn : b < n) : RowAt w' b vs where
  range := fun j v hv => (hb.cell (p := ⟨b, 0 + j, none⟩) hn).trans (h.range j v hv)
  free := fun j hj => by
    rw [hb.cell (p := ⟨b, 0 + j, none⟩) hn, hb.frozen (p := ⟨b, 0 + j, none⟩) hn]
    exact h.free j hj
theorem RowAt.put {w : World} {b : Nat} {vs : List Value} (h : RowAt w b vs) (us : List Value) (hl : us.length = vs.length) : RowAt (w.setCells b 0 us) b us where
  range := World.rangeAt_setCells_same _ _ _ _ (by rw [hl]; exact h.free)
  free := World.there_setCells (by rw [hl]; exact h.free) _ _ _
theorem RowAt.put_other {w : World} {b : Nat} {vs : List Value} (h : RowAt w b vs) (b' o : Nat) (us : List Value) (hb : b ≠ b') : RowAt (w.setCells b' o us) b vs where
  range := World.rangeAt_setCells_apart h.range _ _ _ (Or.inl hb)
  free := World.there_setCells h.free _ _ _
def headVals (h : Head) : List Value := [.int .i64 h.seq, .bool h.live, .int .i64 h.count, .int .u32 h.sum]
theorem headV_def (h : Head) : Value.agg (headVals h).toArray = headV h := rfl
theorem headVals_one (h : Head) : ∀ v ∈ headVals h, v.oneCell' = true := by
  intro v hv
  simp only [headVals, List.mem_cons, List.not_mem_nil, or_false] at hv
  rcases hv with rfl | rfl | rfl | rfl <;> rfl
def HeadAt (w : World) (b : Nat) (h : Head) : Prop := RowAt w b (headVals h)
theorem HeadAt.c0 {w : World} {b : Nat} {h : Head} (k : HeadAt w b h) : w.cell? ⟨b, 0, none⟩ = some (.int .i64 h.seq) := RowAt.cell k 0 _ rfl
theorem HeadAt.c1 {w : World} {b : Nat} {h : Head} (k : HeadAt w b h) : w.cell? ⟨b, 1, none⟩ = some (.bool h.live) := RowAt.cell k 1 _ rfl
theorem HeadAt.lt {w : World} {b : Nat} {h : Head} (k : HeadAt w b h) : b < w.heap.size := RowAt.lt k
theorem HeadAt.drew {w : World} {b : Nat} {h : Head} (k : HeadAt w b h) : HeadAt w.drew b h := RowAt.drew k
theorem HeadAt.below {n : Nat} {w w' : World} {b : Nat} {h : Head} (k : HeadAt w b h) (hb : Below n w w') (hn : b < n) : HeadAt w' b h := RowAt.below k hb hn
theorem HeadAt.put {w : World} {b : Nat} {h : Head} (k : HeadAt w b h) (g : Head) : HeadAt (w.setCells b 0 (headVals g)) b g := RowAt.put k _ rfl
theorem headAt_new (w : World) (h : Head) (t : TypeId) : HeadAt (w.alloc (.cells (headVals h).toArray t)) w.heap.size h := rowAt_new w _ t
structure HeadT (t : TypeId) : Prop where
  row : ∃ d, Tryz.prog.underlying t = some d ∧ d.isRow = true
  info : (Tryz.prog.info? t).map (·.size) = some 4
theorem headT : HeadT 207 := ⟨⟨_, Tryz.underlying207, rfl⟩, by kernel_rfl⟩
theorem HeadAt.loads {t : TypeId} (ht : HeadT t) {w : World} {b : Nat} {h : Head} (k : HeadAt w b h) : (loadVar t ⟨b, 0, none⟩).run Tryz.prog w = .ok (headV h) w := by
  obtain ⟨d, hd, hr⟩ := ht.row
  exact run_loadVar_mid (P := Tryz.prog) w b 0 t (headVals h) d k.range hd hr ht.info
theorem wpList_load_head {t : TypeId} (ht : HeadT t) {ops : Array Oper} {rest : List Oper} {op : Oper} {a : Act} {Q : Exit → Act → World → Prop} {w : World} {b : Nat} {h : Head} (k : HeadAt w b h) (hgd : op.guard = none) (x : Operand) (ho : op.op = .load t x)
    (hx : a.eval x = .pointer (some ⟨b, 0, none⟩)) (hn : wpList Tryz.prog ops Q rest (a.put op.dst (headV h)) w) : wpList Tryz.prog ops Q (op :: rest) a w := by
  obtain ⟨d, hd, hr⟩ := ht.row
  exact wpList_load_mid hgd t x ho b 0 hx (headVals h) d k.range hd hr ht.info hn
theorem wpList_store_head {t : TypeId} (ht : HeadT t) {ops : Array Oper} {rest : List Oper} {op : Oper} {a : Act} {Q : Exit → Act → World → Prop} {w : World} {b : Nat} {g h : Head} (k : HeadAt w b g) (hgd : op.guard = none) (x y : Operand) (ho : op.op = .store t x y)
    (hx : a.eval x = .pointer (some ⟨b, 0, none⟩)) (hy : a.eval y = headV h) (hn : wpList Tryz.prog ops Q rest (a.put op.dst undef) (w.setCells b 0 (headVals h))) : wpList Tryz.prog ops Q (op :: rest) a w :=
  wpList_store_mid hgd t x y ho b 0 (headVals h).toArray hx hy k.free ht.info (all_oneCell_toArray (headVals_one h)) (by simpa using hn)
theorem wpList_store_newhead {t : TypeId} (ht : HeadT t) {ops : Array Oper} {rest : List Oper} {op : Oper} {a : Act} {Q : Exit → Act → World → Prop} {w : World} {Z : Array Value} {u : TypeId} {h : Head} (hgd : op.guard = none) (x y : Operand) (ho : op.op = .store t x y)
    (hx : a.eval x = .pointer (some ⟨w.heap.size, 0, none⟩)) (hy : a.eval y = headV h) (hZ : Z.size = 4)
    (hn : ∀ W2, HeadAt W2 w.heap.size h → Below w.heap.size w W2 → W2.heap.size = w.heap.size + 1 → wpList Tryz.prog ops Q rest (a.put op.dst undef) W2) :
    wpList Tryz.prog ops Q (op :: rest) a (w.alloc (.cells Z u)) := by
  have hth : (w.alloc (.cells Z u)).there w.heap.size 0 4 := there_new w Z u _ (by omega)
  refine wpList_store_mid hgd t x y ho w.heap.size 0 (headVals h).toArray hx hy hth ht.info (all_oneCell_toArray (headVals_one h)) (hn _ ?_ ?_ ?_)
  · exact ⟨World.rangeAt_setCells_same _ _ _ _ hth, World.there_setCells hth _ _ _⟩
  · exact below_setCells _ (Nat.le_refl _) _ _ _ ((Below.refl _ _).alloc (Nat.le_refl _) _)
  · rw [heap_setCells]; simp
theorem results_head {t : TypeId} (ht : HeadT t) (fn : Func) (s : Nat) (hf : fn.results = #[.cell s t]) {w : World} {b : Nat} {h : Head} (tmps : Array Value) (k : HeadAt w b h) (hs : tmps.getD s undef = .pointer (some ⟨b, 0, none⟩)) :
    (results fn tmps).run Tryz.prog w = .ok (headV h) w := by
  have hl := k.loads ht
  unfold results
  rw [hf]
  simp only [Array.mapM_eq_mapM_toList, List.mapM_cons, List.mapM_nil, hs, asAddr, Sem.run_bind, Sem.run_pure, Result.andThen_ok, hl, Sem.run_map]
  rfl
theorem results_head2 {t : TypeId} (ht : HeadT t) (fn : Func) (s r : Nat) (hf : fn.results = #[.cell s t, .tmp r]) {w : World} {b : Nat} {h : Head} {v : Value} (tmps : Array Value) (k : HeadAt w b h) (hs : tmps.getD s undef = .pointer (some ⟨b, 0, none⟩)) (hr : tmps.getD r undef = v) :
    (results fn tmps).run Tryz.prog w = .ok (.tuple #[headV h, v]) w := by
  have hl := k.loads ht
  unfold results
  rw [hf]
  simp only [Array.mapM_eq_mapM_toList, List.mapM_cons, List.mapM_nil, hs, hr, asAddr, Sem.run_bind, Sem.run_pure, Result.andThen_ok, hl, Sem.run_map]
  rfl
section
variable {ops : Array Oper} {σ : Type} {S : σ → World → Prop}
theorem ord_page {o : Oper} {a : Act} {b : Nat} {p : List UInt8} (hw : Region.wanted o (yielded ops a.tmps) = true) (x : Operand) (ho : o.op = .load 97 x) (hx : a.eval x = .pointer (some ⟨b, 0, none⟩)) (hS : ∀ s w, S s w → PageAt w b p) :
    OrdAt Tryz.prog ops S o (pageV p) a :=
  ord_value hw fun s w hs => by
    unfold execOp
    have := (hS s w hs).loads
    simp only [ho, hx, Instr.loadAt, Instr.sureAddr, Sem.run_bind, Sem.run_pure, Result.andThen_ok, this]
theorem gives_store_head {t : TypeId} (ht : HeadT t) {o : Oper} {a : Act} {w : World} {b : Nat} {g h : Head} {R : Value → World → Prop} (k : HeadAt w b g) (x y : Operand) (ho : o.op = .store t x y) (hx : a.eval x = .pointer (some ⟨b, 0, none⟩)) (hy : a.eval y = headV h)
    (hR : R undef (w.setCells b 0 (headVals h))) : Gives Tryz.prog (execOp a.eval o) w R := by
  have hs := run_storeVar_mid (P := Tryz.prog) w b 0 t (headVals h).toArray k.free ht.info (all_oneCell_toArray (headVals_one h))
  rw [headV_def] at hs
  have hrun : (execOp a.eval o).run Tryz.prog w = .ok .skip (w.setCells b 0 (headVals h)) ∨ (execOp a.eval o).run Tryz.prog w = .ok (.value undef) (w.setCells b 0 (headVals h)) := by
    unfold execOp
    simp only [ho, hx, hy, Instr.storeAt, Instr.sureAddr, Sem.run_bind, Sem.run_pure, Result.andThen_ok, hs]
    simp
  unfold Gives
  rcases hrun with h | h <;> (rw [h]; exact hR)
end
end

section
open Go.RowKit
open Dk (zeros zeros_length)
open Hd (Head rightB pageH)
structure RdS (w0 : World) (p : List UInt8) (h : Head) (b : Bool) (W : World) : Prop where
  page : PageAt W w0.heap.size p
  res : HeadAt W (w0.heap.size + 1) (if b = true then h else Hd.zero)
  below : Below w0.heap.size w0 W
theorem RdS.call {w0 : World} {p : List UInt8} {h : Head} {b : Bool} {W W' : World} (k : RdS w0 p h b W) (hb : Below W.heap.size W W') : RdS w0 p h b W' :=
  ⟨k.page.below hb k.page.lt, k.res.below hb k.res.lt, k.below.trans (hb.mono k.below.size)⟩
theorem RdS.put {w0 : World} {p : List UInt8} {h : Head} {b : Bool} {W : World} (k : RdS w0 p h b W) : RdS w0 p h true (W.setCells (w0.heap.size + 1) 0 (headVals h)) :=
  ⟨k.page.put_other _ _ _ (by omega), k.res.put h, below_setCells _ (by omega) _ _ _ k.below⟩
theorem rdS_start (w : World) (p : List UInt8) (h : Head) (hp : p.length = 64) : RdS w p h false ((w.alloc (.cells (byteVals p).toArray 97)).alloc (.cells #[.int .i64 0, .bool false, .int .i64 0, .int .u32 0] 207)).drew where
  page := ((pageAt_new w p _ hp).alloc _).drew
  res := by
    have := headAt_new (w.alloc (.cells (byteVals p).toArray 97)) Hd.zero 207
    have e : (w.alloc (.cells (byteVals p).toArray 97)).heap.size = w.heap.size + 1 := by simp
    rw [e] at this
    exact this.drew
  below := (((Below.refl _ _).alloc (Nat.le_refl _) _).alloc (by simp) _).drew
theorem wrap_u32_in (v : Int) (h0 : 0 ≤ v) (h1 : v < 4294967296) : IntKind.u32.wrap v = v := by
  have e : IntKind.u32.wrap v = v % 4294967296 := by simp [IntKind.wrap, IntKind.bits, IntKind.signed]
  rw [e]; omega
theorem hread_any (p : List UInt8) (w : World) (hp : p.length = 64) :
    Calls Tryz.prog 181 #[pageV p] w fun e w' => e = .returned (headV (Hd.readH p)) ∧ Below w.heap.size w w' := by
  have G0 := Lib.hid (fun (w : World) => get_any p 0 4 w hp (by omega) (by omega))
  have G4 := Lib.hid (fun (w : World) => get_any p 4 1 w hp (by omega) (by omega))
  have G5 := Lib.hid (fun (w : World) => get_any p 5 2 w hp (by omega) (by omega))
  have G7 := Lib.hid (fun (w : World) => get_any p 7 4 w hp (by omega) (by omega))
  have hbd := Hd.read_bd p hp
  have HB : Hid (headV ⟨Pg.getN p 0 4, Pg.getN p 4 1 == 1, Pg.getN p 5 2, Pg.getN p 7 4⟩ = headV (Hd.readH p)) := Lib.hid rfl
  obtain ⟨_, _, _, _, k0, k1⟩ := hbd
  change 0 ≤ Pg.getN p 7 4 at k0
  change Pg.getN p 7 4 < 4294967296 at k1
  have HS := Lib.hid (rdS_start w p (Hd.readH p) hp)
  clear hp
  generalize Hd.readH p = h at HB HS ⊢
  generalize Pg.getN p 0 4 = g0 at G0 HB
  generalize Pg.getN p 4 1 = g4 at G4 HB
  generalize Pg.getN p 5 2 = g5 at G5 HB
  generalize Pg.getN p 7 4 = g7 at G7 HB k0 k1
  unfold headV at HB
  unfold pageV
  go_enter Tryz.func181, Tryz.ntmps181
  go_wp2_with fail
  refine wp_region_lin (RdS w p h) (fun i => i == 11) (fun i => [pageV p, .int .i64 g0, pageV p, .int .i64 g4, .bool (g4 == 1), pageV p, .int .i64 g5, pageV p, .int .i64 g7, .int .u32 g7, headV h].getD i undef) (false) (by kernel_rfl) (by kernel_rfl) (HS.out) ?_
  refine lin_step (i := 0) (d := some 3) (v := pageV p) rfl rfl (by kernel_rfl) (by kernel_rfl) rfl rfl (ord_page (by kernel_rfl) (.tmp 1) rfl rfl (fun _ _ hS => hS.page)) ?_
  (try simp only [Act.put, puA, puB, puC])
  refine lin_step (i := 1) (d := some 4) (v := .int .i64 g0) rfl rfl (by kernel_rfl) (by kernel_rfl) rfl rfl (ord_call (f := 142) (args := #[pageV p, .int .i64 0, .int .i64 4]) (by kernel_rfl) ?_ (fun _ _ hS => (G0.out _).mono fun _ _ ⟨he, hb⟩ => ⟨he, hS.call hb⟩)) ?_
  · intro _; go_simp
  (try simp only [Act.put, puA, puB, puC])
  refine lin_step (i := 2) (d := some 5) (v := pageV p) rfl rfl (by kernel_rfl) (by kernel_rfl) rfl rfl (ord_page (by kernel_rfl) (.tmp 1) rfl rfl (fun _ _ hS => hS.page)) ?_
  (try simp only [Act.put, puA, puB, puC])
  refine lin_step (i := 3) (d := some 6) (v := .int .i64 g4) rfl rfl (by kernel_rfl) (by kernel_rfl) rfl rfl (ord_call (f := 142) (args := #[pageV p, .int .i64 4, .int .i64 1]) (by kernel_rfl) ?_ (fun _ _ hS => (G4.out _).mono fun _ _ ⟨he, hb⟩ => ⟨he, hS.call hb⟩)) ?_
  · intro _; go_simp
  (try simp only [Act.put, puA, puB, puC])
  refine lin_step (i := 4) (d := some 7) (v := .bool (g4 == 1)) rfl rfl (by kernel_rfl) (by kernel_rfl) rfl rfl (ord_value (by kernel_rfl) ?_) ?_
  · intro _ _ _; go_simp
  (try simp only [Act.put, puA, puB, puC])
  refine lin_step (i := 5) (d := some 8) (v := pageV p) rfl rfl (by kernel_rfl) (by kernel_rfl) rfl rfl (ord_page (by kernel_rfl) (.tmp 1) rfl rfl (fun _ _ hS => hS.page)) ?_
  (try simp only [Act.put, puA, puB, puC])
  refine lin_step (i := 6) (d := some 9) (v := .int .i64 g5) rfl rfl (by kernel_rfl) (by kernel_rfl) rfl rfl (ord_call (f := 142) (args := #[pageV p, .int .i64 5, .int .i64 2]) (by kernel_rfl) ?_ (fun _ _ hS => (G5.out _).mono fun _ _ ⟨he, hb⟩ => ⟨he, hS.call hb⟩)) ?_
  · intro _; go_simp
  (try simp only [Act.put, puA, puB, puC])
  refine lin_step (i := 7) (d := some 10) (v := pageV p) rfl rfl (by kernel_rfl) (by kernel_rfl) rfl rfl (ord_page (by kernel_rfl) (.tmp 1) rfl rfl (fun _ _ hS => hS.page)) ?_
  (try simp only [Act.put, puA, puB, puC])
  refine lin_step (i := 8) (d := some 11) (v := .int .i64 g7) rfl rfl (by kernel_rfl) (by kernel_rfl) rfl rfl (ord_call (f := 142) (args := #[pageV p, .int .i64 7, .int .i64 4]) (by kernel_rfl) ?_ (fun _ _ hS => (G7.out _).mono fun _ _ ⟨he, hb⟩ => ⟨he, hS.call hb⟩)) ?_
  · intro _; go_simp
  (try simp only [Act.put, puA, puB, puC])
  refine lin_step (i := 9) (d := some 12) (v := .int .u32 g7) rfl rfl (by kernel_rfl) (by kernel_rfl) rfl rfl (ord_value (by kernel_rfl) ?_) ?_
  · intro _ _ _; go_simp; exact wrap_u32_in _ k0 k1
  (try simp only [Act.put, puA, puB, puC])
  refine lin_step (i := 10) (d := some 13) (v := headV h) rfl rfl (by kernel_rfl) (by kernel_rfl) rfl rfl (ord_value (by kernel_rfl) ?_) ?_
  · intro _ _ _; go_simp; exact HB.out
  (try simp only [Act.put, puA, puB, puC])
  refine lin_turn (i := 11) (d := none) (fun u s => u = undef ∧ s = true) rfl rfl (by kernel_rfl) (by kernel_rfl) rfl (by kernel_rfl) (⟨_, _, rfl, rfl⟩) (by kernel_rfl) (fun W hS => gives_store_head headT hS.res (.tmp 2) (.tmp 13) rfl rfl rfl ⟨true, ⟨rfl, rfl⟩, hS.put⟩) ?_
  rintro _ _ ⟨rfl, rfl⟩
  (try simp only [Act.put, puA, puB, puC])
  refine lin_done (by kernel_rfl) ?_
  intro W hS
  go_wp2_with fail
  exact bodyPost_ret (results_head headT _ 2 rfl _ hS.res rfl) rfl ⟨rfl, hS.below⟩
end

section
open Go.RowKit
open Dk (zeros zeros_length)
open Hd (Head rightB pageH)
theorem run_neq_not (w : World) (p q : List UInt8) (hp : p.length = 64) (hq : q.length = 64) (h : p ≠ q) : (binOp .neq 97 (pageV p) (pageV q)).run Tryz.prog w = .ok (.bool true) w := by
  rw [run_neq_page w p q hp hq, decide_eq_false h]; rfl
theorem rdS_box (w : World) (p : List UInt8) (h : Head) (hp : p.length = 64) : RdS w p h false ((w.alloc (.cells (byteVals p).toArray 97)).alloc (.cells #[.int .i64 0, .bool false, .int .i64 0, .int .u32 0] 207)) where
  page := (pageAt_new w p _ hp).alloc _
  res := by
    have := headAt_new (w.alloc (.cells (byteVals p).toArray 97)) Hd.zero 207
    have e : (w.alloc (.cells (byteVals p).toArray 97)).heap.size = w.heap.size + 1 := by simp
    rw [e] at this
    exact this
  below := ((Below.refl _ _).alloc (Nat.le_refl _) _).alloc (by simp) _
theorem decode_yes (p : List UInt8) (w : World) (hp : p.length = 64) (h : Hd.wholeB p = true) :
    Calls Tryz.prog 166 #[pageV p] w fun e w' => e = .returned (.tuple #[headV (Hd.readH p), .bool true]) ∧ Below w.heap.size w w' := by
  have HP := Lib.hid hp
  have hbd := Hd.read_bd p hp
  have HR := Lib.hid (fun (w : World) => hread_any p w hp)
  have HS := Lib.hid (rdS_box w p (Hd.readH p) hp)
  have HE : Hid (∀ w, Calls Tryz.prog 182 #[headV (Hd.readH p)] w fun e w' => e = .returned (.tuple #[pageV p, .int .i64 0]) ∧ Below w.heap.size w w') := Lib.hid (fun w => by
    have := encode_yes (Hd.readH p) w (Hd.whole_yes h).1 hbd.2.2.2.2.1 hbd.2.2.2.2.2
    rw [(Hd.whole_yes h).2] at this
    exact this)
  clear h
  have E1 := fun (x y : Operand) (w : World) => run_neGuard_page w x y p p
  have E2 := fun (w : World) => run_neq_same w p hp
  clear hp hbd
  generalize Hd.readH p = h at *
  unfold pageV
  go_enter Tryz.func166, Tryz.ntmps166
  go_wp2_with (with_reducible refine wpList_load_page HS.out.page rfl (.tmp 1) rfl rfl ?_)
  refine (HR.out _).mono ?_
  rintro e w2 ⟨rfl, hb2⟩
  have S2 := Lib.hid (HS.out.call hb2)
  clear HS HR hb2
  go_wp2_with (first
    | ((with_reducible refine wpList_store_newhead headT (h := h) rfl (.tmp 4) (.tmp 8) rfl rfl ?_ ?_ ?_); (exact rfl); (exact rfl); intro W3 hH hB3 hz3; have S3 := Lib.hid (S2.out.call hB3); have H3 := Lib.hid hH; clear S2 hH hB3 hz3; generalize w2.heap.size = C at H3 ⊢)
    | ((with_reducible refine wpList_load_head headT H3.out rfl (.tmp 4) rfl rfl ?_)))
  refine (HE.out _).mono ?_
  rintro e w4 ⟨rfl, hb4⟩
  have S4 := Lib.hid (S3.out.call hb4)
  have H4 := Lib.hid (H3.out.below hb4 H3.out.lt)
  clear S3 H3 hb4
  go_wp2_with (first
    | ((with_reducible refine wpList_store_new rfl (.tmp 5) (.tmp 12) rfl rfl ?_ ?_ HP.out ?_); (exact rfl); (exact rfl); intro W5 hP hB5 hz5; have S5 := Lib.hid (S4.out.call hB5); have H5 := Lib.hid (H4.out.below hB5 H4.out.lt); have P5 := Lib.hid hP; clear S4 H4 hP hB5 hz5; generalize w4.heap.size = D at P5 ⊢)
    | ((with_reducible refine wpList_load_guarded P5.out (.tmp 5) rfl rfl (by kernel_rfl) ?_))
    | ((with_reducible refine wpList_load_guarded S5.out.page (.tmp 1) rfl rfl (by kernel_rfl) ?_))
    | ((with_reducible refine wpList_load_head headT H5.out rfl (.tmp 4) rfl rfl ?_))
    | ((with_reducible refine wpList_store_head headT (h := h) S5.out.res rfl (.tmp 2) (.tmp 22) rfl rfl ?_ ?_); (exact rfl)))
  exact bodyPost_ret (results_head2 headT _ 2 3 rfl _ (S5.out.res.put _) rfl rfl) rfl ⟨rfl, below_setCells _ (by omega) _ _ _ S5.out.below⟩
theorem decode_bad (p : List UInt8) (w : World) (hp : p.length = 64) (h : rightB (Hd.readH p) = false) :
    Calls Tryz.prog 166 #[pageV p] w fun e w' => e = .returned (.tuple #[headV Hd.zero, .bool false]) ∧ Below w.heap.size w w' := by
  have HP := Lib.hid hp
  have hbd := Hd.read_bd p hp
  have HR := Lib.hid (fun (w : World) => hread_any p w hp)
  have HS := Lib.hid (rdS_box w p (Hd.readH p) hp)
  have HE := Lib.hid (fun (w : World) => encode_no (Hd.readH p) w h)
  clear h

  clear hp hbd
  generalize Hd.readH p = h at *
  unfold pageV
  go_enter Tryz.func166, Tryz.ntmps166
  go_wp2_with (with_reducible refine wpList_load_page HS.out.page rfl (.tmp 1) rfl rfl ?_)
  refine (HR.out _).mono ?_
  rintro e w2 ⟨rfl, hb2⟩
  have S2 := Lib.hid (HS.out.call hb2)
  clear HS HR hb2
  go_wp2_with (first
    | ((with_reducible refine wpList_store_newhead headT (h := h) rfl (.tmp 4) (.tmp 8) rfl rfl ?_ ?_ ?_); (exact rfl); (exact rfl); intro W3 hH hB3 hz3; have S3 := Lib.hid (S2.out.call hB3); have H3 := Lib.hid hH; clear S2 hH hB3 hz3; generalize w2.heap.size = C at H3 ⊢)
    | ((with_reducible refine wpList_load_head headT H3.out rfl (.tmp 4) rfl rfl ?_)))
  refine (HE.out _).mono ?_
  rintro e w4 ⟨rfl, hb4⟩
  have S4 := Lib.hid (S3.out.call hb4)
  have H4 := Lib.hid (H3.out.below hb4 H3.out.lt)
  clear S3 H3 hb4
  go_wp2_with (first
    | ((with_reducible refine wpList_store_new rfl (.tmp 5) (.tmp 12) rfl rfl ?_ ?_ zeros_length ?_); (exact rfl); (exact rfl); intro W5 hP hB5 hz5; have S5 := Lib.hid (S4.out.call hB5); have H5 := Lib.hid (H4.out.below hB5 H4.out.lt); have P5 := Lib.hid hP; clear S4 H4 hP hB5 hz5; generalize w4.heap.size = D at P5 ⊢)
    | ((with_reducible refine wpList_load_head headT H5.out rfl (.tmp 4) rfl rfl ?_))
    | ((with_reducible refine wpList_store_head headT (h := Hd.zero) S5.out.res rfl (.tmp 2) (.tmp 21) rfl rfl ?_ ?_); (exact rfl)))
  exact bodyPost_ret (results_head2 headT _ 2 3 rfl _ (S5.out.res.put _) rfl rfl) rfl ⟨rfl, below_setCells _ (by omega) _ _ _ S5.out.below⟩
theorem decode_torn (p : List UInt8) (w : World) (hp : p.length = 64) (h : rightB (Hd.readH p) = true) (hne : pageH (Hd.readH p) ≠ p) :
    Calls Tryz.prog 166 #[pageV p] w fun e w' => e = .returned (.tuple #[headV Hd.zero, .bool false]) ∧ Below w.heap.size w w' := by
  have HP := Lib.hid hp
  have hbd := Hd.read_bd p hp
  have HR := Lib.hid (fun (w : World) => hread_any p w hp)
  have HS := Lib.hid (rdS_box w p (Hd.readH p) hp)
  have HE := Lib.hid (fun (w : World) => encode_yes (Hd.readH p) w h hbd.2.2.2.2.1 hbd.2.2.2.2.2)
  have HQ := Lib.hid (Hd.pageH_length (Hd.readH p))
  clear h
  have E1 := fun (x y : Operand) (w : World) => run_neGuard_page w x y (pageH (Hd.readH p)) p
  have E2 := fun (w : World) => run_neq_not w (pageH (Hd.readH p)) p HQ.out hp hne
  clear hne
  clear hp hbd
  generalize Hd.readH p = h at *
  unfold pageV
  go_enter Tryz.func166, Tryz.ntmps166
  go_wp2_with (with_reducible refine wpList_load_page HS.out.page rfl (.tmp 1) rfl rfl ?_)
  refine (HR.out _).mono ?_
  rintro e w2 ⟨rfl, hb2⟩
  have S2 := Lib.hid (HS.out.call hb2)
  clear HS HR hb2
  go_wp2_with (first
    | ((with_reducible refine wpList_store_newhead headT (h := h) rfl (.tmp 4) (.tmp 8) rfl rfl ?_ ?_ ?_); (exact rfl); (exact rfl); intro W3 hH hB3 hz3; have S3 := Lib.hid (S2.out.call hB3); have H3 := Lib.hid hH; clear S2 hH hB3 hz3; generalize w2.heap.size = C at H3 ⊢)
    | ((with_reducible refine wpList_load_head headT H3.out rfl (.tmp 4) rfl rfl ?_)))
  refine (HE.out _).mono ?_
  rintro e w4 ⟨rfl, hb4⟩
  have S4 := Lib.hid (S3.out.call hb4)
  have H4 := Lib.hid (H3.out.below hb4 H3.out.lt)
  clear S3 H3 hb4
  go_wp2_with (first
    | ((with_reducible refine wpList_store_new rfl (.tmp 5) (.tmp 12) rfl rfl ?_ ?_ HQ.out ?_); (exact rfl); (exact rfl); intro W5 hP hB5 hz5; have S5 := Lib.hid (S4.out.call hB5); have H5 := Lib.hid (H4.out.below hB5 H4.out.lt); have P5 := Lib.hid hP; clear S4 H4 hP hB5 hz5; generalize w4.heap.size = D at P5 ⊢)
    | ((with_reducible refine wpList_load_guarded P5.out (.tmp 5) rfl rfl (by kernel_rfl) ?_))
    | ((with_reducible refine wpList_load_guarded S5.out.page (.tmp 1) rfl rfl (by kernel_rfl) ?_))
    | ((with_reducible refine wpList_load_head headT H5.out rfl (.tmp 4) rfl rfl ?_))
    | ((with_reducible refine wpList_store_head headT (h := Hd.zero) S5.out.res rfl (.tmp 2) (.tmp 21) rfl rfl ?_ ?_); (exact rfl)))
  exact bodyPost_ret (results_head2 headT _ 2 3 rfl _ (S5.out.res.put _) rfl rfl) rfl ⟨rfl, below_setCells _ (by omega) _ _ _ S5.out.below⟩
theorem decode_no (p : List UInt8) (w : World) (hp : p.length = 64) (h : Hd.wholeB p = false) :
    Calls Tryz.prog 166 #[pageV p] w fun e w' => e = .returned (.tuple #[headV Hd.zero, .bool false]) ∧ Below w.heap.size w w' := by
  cases hr : rightB (Hd.readH p) with
  | false => exact decode_bad p w hp hr
  | true =>
    refine decode_torn p w hp hr (fun e => ?_)
    unfold Hd.wholeB at h
    rw [hr, e] at h
    simp at h
theorem decode_any (p : List UInt8) (w : World) (hp : p.length = 64) :
    Calls Tryz.prog 166 #[pageV p] w fun e w' => e = .returned (.tuple #[headV (Hd.decH p), .bool (Hd.wholeB p)]) ∧ Below w.heap.size w w' := by
  unfold Hd.decH
  cases h : Hd.wholeB p with
  | true => exact decode_yes p w hp h
  | false => exact decode_no p w hp h
end

section
open Go.RowKit
open Dk (zeros zeros_length)
open Hd (Head rightB pageH)
theorem wpList_load_at {ops : Array Oper} {rest : List Oper} {op : Oper} {a : Act} {Q : Exit → Act → World → Prop} {w : World} {b o : Nat} {p : List UInt8} (hr : w.rangeAt b o (byteVals p)) (hp : p.length = 64) (hgd : op.guard = none) (x : Operand) (ho : op.op = .load 97 x)
    (hx : a.eval x = .pointer (some ⟨b, o, none⟩)) (h : wpList Tryz.prog ops Q rest (a.put op.dst (pageV p)) w) : wpList Tryz.prog ops Q (op :: rest) a w :=
  wpList_load_mid hgd 97 x ho b o hx (byteVals p) _ hr Tryz.underlying97 rfl (by rw [page_info, byteVals_length, hp]) h
theorem take_more {α : Type} (l : List α) (k : Nat) (a : α) (h : l[k]? = some a) : l.take (k + 1) = l.take k ++ [a] := by
  obtain ⟨hk, he⟩ := List.getElem?_eq_some_iff.1 h
  rw [List.take_succ_eq_append_getElem hk, he]
def NxR (w0 : World) (A : Option Addr) (n : Nat) (ps : List (List UInt8)) (W : World) : Prop := PageRow W A n ps ∧ Below w0.heap.size w0 W
theorem NxR.call {w0 : World} {A : Option Addr} {n : Nat} {ps : List (List UInt8)} {W W' : World} (k : NxR w0 A n ps W) (hb : Below W.heap.size W W') : NxR w0 A n ps W' := ⟨k.1.step hb, k.2.trans (hb.mono k.2.size)⟩
theorem PageRow.drew {w : World} {A : Option Addr} {n : Nat} {ps : List (List UInt8)} (h : PageRow w A n ps) : PageRow w.drew A n ps where
  len := h.len
  small := h.small
  size := h.size
  cells := fun hn => by
    obtain ⟨b, off, e, hlt, hc⟩ := h.cells hn
    exact ⟨b, off, e, hlt, fun i p hi => (World.rangeAt_drew ..).2 (hc i p hi)⟩
theorem NxR.drew {w0 : World} {A : Option Addr} {n : Nat} {ps : List (List UInt8)} {W : World} (k : NxR w0 A n ps W) : NxR w0 A n ps W.drew := ⟨k.1.drew, k.2.drew⟩
def NxS (w0 : World) (A : Option Addr) (n : Nat) (ps : List (List UInt8)) (B : Nat) (p : List UInt8) (W : World) : Prop := NxR w0 A n ps W ∧ PageAt W B p
theorem NxS.call {w0 : World} {A : Option Addr} {n : Nat} {ps : List (List UInt8)} {B : Nat} {p : List UInt8} {W W' : World} (k : NxS w0 A n ps B p W) (hb : Below W.heap.size W W') : NxS w0 A n ps B p W' := ⟨NxR.call k.1 hb, k.2.below hb k.2.lt⟩
theorem next_any (A : Option Addr) (n c : Nat) (ps : List (List UInt8)) (w : World) (hrow : PageRow w A n ps) :
    Calls Tryz.prog 168 #[.slice A n c] w fun e w' => e = .returned (.int .i64 (Hd.nextN ps)) ∧ Below w.heap.size w w' := by
  have hn := hrow.small
  unfold maxLen at hn
  have HR : Hid (NxR w A n ps w) := Lib.hid ⟨hrow, Below.refl _ _⟩
  have HL := Lib.hid hrow.len
  have HZ := Lib.hid hrow.size
  clear hrow
  go_enter Tryz.func168, Tryz.ntmps168
  go_wp2_with fail
  go_loopw [3, 8] (fun x i wr => ∃ k : Nat, k ≤ n ∧ i = .int .i64 k ∧ x = .int .i64 (Hd.nextN (ps.take k)) ∧ NxR w A n ps wr) (fun _ i _ => n - (intOf i).toNat)
  case atStart => exact ⟨0, Nat.zero_le _, rfl, rfl, HR.out⟩
  case round =>
    obtain ⟨k, hk, rfl, rfl, hnx⟩ := hrel
    have HX := Lib.hid hnx
    clear hnx HR
    by_cases hlt : k < n
    · obtain ⟨b, off, rfl, hb, hc⟩ := HX.out.1.cells (by omega)
      obtain ⟨p, hp⟩ : ∃ p, ps[k]? = some p := ⟨_, List.getElem?_eq_getElem (by rw [HL.out]; exact hlt)⟩
      have HP := Lib.hid (hc k p hp)
      have HPL := Lib.hid (HZ.out p (List.mem_of_getElem? hp))
      have HT := Lib.hid (take_more ps k p hp)
      have G0 := Lib.hid (fun (w : World) => get_any p 0 4 w HPL.out (by omega) (by omega))
      have G6 := Lib.hid (fun (w : World) => get_any p 60 4 w HPL.out (by omega) (by omega))
      have hbd := Hd.get_bd p HPL.out
      have HU : Hid (Hd.nextN (ps.take (k + 1)) = max (max (Hd.nextN (ps.take k)) (Pg.getN p 0 4 + 1)) (Pg.getN p 60 4 + 1)) := Lib.hid (by rw [HT.out, Hd.nextN_snoc]; rfl)
      have hx0 := Hd.nextN_nonneg (ps.take k)
      have hx1 := Hd.nextN_top (ps.take k) (fun q hq => HZ.out q (List.mem_of_mem_take hq))
      clear hc hp hb HT
      generalize Hd.nextN (ps.take k) = x at HU hx0 hx1 ⊢
      generalize Pg.getN p 0 4 = g0 at G0 HU hbd
      generalize Pg.getN p 60 4 = g6 at G6 HU hbd
      obtain ⟨b1, b2, b3, b4⟩ := hbd
      have w1 : IntKind.i64.wrap (g0 + 1) = g0 + 1 := IntWalk.i64_in _ (by omega)
      have w2 : IntKind.i64.wrap (g6 + 1) = g6 + 1 := IntWalk.i64_in _ (by omega)
      have hk0 : (0 : Int) ≤ (k : Int) := by omega
      have hk1 : (k : Int) < (n : Int) := by omega
      go_wp2_with (first
        | ((with_reducible refine wpList_load_at HP.out HPL.out rfl (.tmp 10) rfl ?_ ?_); (exact rfl))
        | ((with_reducible refine wpList_store_new rfl (.tmp 5) (.tmp 11) rfl rfl ?_ ?_ HPL.out ?_); (exact rfl); (exact rfl); intro W2 hP hB2 hz2; have S2 : Hid (NxS w (some ⟨b, off, none⟩) n ps wr.heap.size p W2) := Lib.hid ⟨NxR.call HX.out hB2, hP⟩; clear HX hP hB2 hz2; generalize wr.heap.size = B at S2 ⊢))
      obtain ⟨y, hy⟩ : ∃ y, max (max x (g0 + 1)) (g6 + 1) = y := ⟨_, rfl⟩
      have HY := Lib.hid hy
      clear hy
      refine wp_region_lin (fun (_ : Unit) => NxS w (some ⟨b, off, none⟩) n ps B p) (fun _ => false) (fun i => [.int .i64 x, pageV p, .int .i64 g0, .int .i64 (g0 + 1), pageV p, .int .i64 g6, .int .i64 (g6 + 1), .int .i64 y, .int .i64 y].getD i undef) (()) (by kernel_rfl) (by kernel_rfl) (⟨S2.out.1.drew, S2.out.2.drew⟩) ?_
      refine lin_step (i := 0) (d := some 12) (v := .int .i64 x) rfl rfl (by kernel_rfl) (by kernel_rfl) rfl rfl (ord_value (by kernel_rfl) ?_) ?_
      · intro _ _ _; go_simp
      (try simp only [Act.put, puA, puB, puC])
      refine lin_step (i := 1) (d := some 13) (v := pageV p) rfl rfl (by kernel_rfl) (by kernel_rfl) rfl rfl (ord_page (by kernel_rfl) (.tmp 5) rfl rfl (fun _ _ hS => hS.2)) ?_
      (try simp only [Act.put, puA, puB, puC])
      refine lin_step (i := 2) (d := some 14) (v := .int .i64 g0) rfl rfl (by kernel_rfl) (by kernel_rfl) rfl rfl (ord_call (f := 142) (args := #[pageV p, .int .i64 0, .int .i64 4]) (by kernel_rfl) ?_ (fun _ _ hS => (G0.out _).mono fun _ _ ⟨he, hb⟩ => ⟨he, NxS.call hS hb⟩)) ?_
      · intro _; go_simp
      (try simp only [Act.put, puA, puB, puC])
      refine lin_step (i := 3) (d := some 15) (v := .int .i64 (g0 + 1)) rfl rfl (by kernel_rfl) (by kernel_rfl) rfl rfl (ord_value (by kernel_rfl) ?_) ?_
      · intro _ _ _; go_simp
      (try simp only [Act.put, puA, puB, puC])
      refine lin_step (i := 4) (d := some 16) (v := pageV p) rfl rfl (by kernel_rfl) (by kernel_rfl) rfl rfl (ord_page (by kernel_rfl) (.tmp 5) rfl rfl (fun _ _ hS => hS.2)) ?_
      (try simp only [Act.put, puA, puB, puC])
      refine lin_step (i := 5) (d := some 17) (v := .int .i64 g6) rfl rfl (by kernel_rfl) (by kernel_rfl) rfl rfl (ord_call (f := 142) (args := #[pageV p, .int .i64 60, .int .i64 4]) (by kernel_rfl) ?_ (fun _ _ hS => (G6.out _).mono fun _ _ ⟨he, hb⟩ => ⟨he, NxS.call hS hb⟩)) ?_
      · intro _; go_simp
      (try simp only [Act.put, puA, puB, puC])
      refine lin_step (i := 6) (d := some 18) (v := .int .i64 (g6 + 1)) rfl rfl (by kernel_rfl) (by kernel_rfl) rfl rfl (ord_value (by kernel_rfl) ?_) ?_
      · intro _ _ _; go_simp
      (try simp only [Act.put, puA, puB, puC])
      refine lin_step (i := 7) (d := some 19) (v := .int .i64 y) rfl rfl (by kernel_rfl) (by kernel_rfl) rfl rfl (ord_value (by kernel_rfl) ?_) ?_
      · intro _ _ _; go_simp; (rw [← HY.out]; (repeat' split) <;> omega)
      (try simp only [Act.put, puA, puB, puC])
      refine lin_step (i := 8) (d := some 3) (v := .int .i64 y) rfl rfl (by kernel_rfl) (by kernel_rfl) rfl rfl (ord_value (by kernel_rfl) ?_) ?_
      · intro _ _ _; go_simp
      (try simp only [Act.put, puA, puB, puC])
      refine lin_done (by kernel_rfl) ?_
      intro W3 hS
      have S3 := Lib.hid hS
      clear hS S2 w1 w2
      go_wp2_with fail
      go_roundw
      case rel => exact ⟨k + 1, by omega, by go_num, by rw [HU.out, HY.out], S3.out.1⟩
      case measure => simp [intOf]; omega
    · have HK : Hid (ps.take k = ps) := Lib.hid (List.take_of_length_le (by rw [HL.out]; omega))
      go_wp2_with fail
      go_ret
      exact ⟨ret_int (by rw [HK.out]), HX.out.2⟩
section
variable {ops : Array Oper} {σ : Type} {S : σ → World → Prop}
end
end

namespace Mt
def step (p : Int × Int) (c : UInt8) : Int × Int := ((p.1 + (c.toNat : Int)) % 65535, (p.2 + (p.1 + (c.toNat : Int)) % 65535) % 65535)
def run (p : Int × Int) (l : List UInt8) : Int × Int := l.foldl step p
def joinN (p : Int × Int) : Int := p.2 * 65536 + p.1
def splitN (s : Int) : Int × Int := (s % 65536 % 65535, s / 65536 % 65535)
def Fit (p : Int × Int) : Prop := 0 ≤ p.1 ∧ p.1 < 65535 ∧ 0 ≤ p.2 ∧ p.2 < 65535
theorem fit_step (p : Int × Int) (c : UInt8) : Fit (step p c) := by
  unfold Fit step
  exact ⟨Int.emod_nonneg _ (by omega), Int.emod_lt_of_pos _ (by omega), Int.emod_nonneg _ (by omega), Int.emod_lt_of_pos _ (by omega)⟩
theorem fit_run (p : Int × Int) (l : List UInt8) (h : Fit p) : Fit (run p l) := by
  induction l generalizing p with
  | nil => exact h
  | cons c l ih => exact ih _ (fit_step p c)
theorem fit_zero : Fit (0, 0) := by unfold Fit; simp
theorem run_append (p : Int × Int) (l r : List UInt8) : run p (l ++ r) = run (run p l) r := by
  unfold run; rw [List.foldl_append]
theorem run_snoc (p : Int × Int) (l : List UInt8) (c : UInt8) : run p (l ++ [c]) = step (run p l) c := by
  rw [run_append]; rfl
theorem join_bd (p : Int × Int) (h : Fit p) : 0 ≤ joinN p ∧ joinN p < 4294967296 := by
  unfold Fit at h; unfold joinN; omega
end Mt

section
open Go.RowKit
theorem ret_int2 {k : IntKind} {a b c d : Int} (h : a = b) (h' : c = d) : Ending.returned (.tuple #[.int k a, .int k c]) = .returned (.tuple #[.int k b, .int k d]) := by rw [h, h']
theorem and_mask (s : Int) (h0 : 0 ≤ s) (h1 : s < 4294967296) : (bits BinOp.and IntKind.u32 s 65535).tmod 65535 = s % 65536 % 65535 := by
  rw [u32_and s 65535 h0 h1 (by omega) (by omega)]
  have e : s.toNat &&& (65535 : Int).toNat = s.toNat % 65536 := Nat.and_two_pow_sub_one_eq_mod s.toNat 16
  rw [e, Int.tmod_eq_emod_of_nonneg (by omega)]
  omega
theorem or_join (a b : Int) (h0 : 0 ≤ a) (h1 : a < 65535) (h2 : 0 ≤ b) (h3 : b < 65535) : bits BinOp.or IntKind.u32 (b * 65536) a = Mt.joinN (a, b) := by
  rw [u32_or (b * 65536) a (by omega) (by omega) (by omega) (by omega)]
  have e : (b * 65536).toNat ||| a.toNat = (b * 65536).toNat + a.toNat := nat_join 16 _ _ (by omega) (by omega)
  rw [e]
  unfold Mt.joinN
  simp only
  omega
theorem split_any (s : Int) (w : World) (h0 : 0 ≤ s) (h1 : s < 4294967296) :
    Calls Tryz.prog 198 #[.int .u32 s] w fun e w' => e = .returned (.tuple #[.int .u32 (Mt.splitN s).1, .int .u32 (Mt.splitN s).2]) ∧ w = w' := by
  go_enter Tryz.func198, Tryz.ntmps198
  go_wp2
  go_ret2
  exact ⟨ret_int2 (and_mask s h0 h1) rfl, rfl⟩
theorem join_any (a b : Int) (w : World) (h0 : 0 ≤ a) (h1 : a < 65535) (h2 : 0 ≤ b) (h3 : b < 65535) :
    Calls Tryz.prog 200 #[.int .u32 a, .int .u32 b] w fun e w' => e = .returned (.int .u32 (Mt.joinN (a, b))) ∧ w = w' := by
  go_enter Tryz.func200, Tryz.ntmps200
  go_wp2
  go_ret
  exact ⟨ret_int (or_join a b h0 h1 h2 h3), rfl⟩
theorem take_snoc (s : ByteArray) (k : Nat) (h : k < s.size) : s.data.toList.take (k + 1) = s.data.toList.take k ++ [s[k]] := by
  rw [List.take_succ_eq_append_getElem (by simpa using h)]; rfl
theorem add_any (a b : Int) (s : ByteArray) (w : World) (hf : Mt.Fit (a, b)) (hs : s.size ≤ maxLen) :
    Calls Tryz.prog 199 #[.int .u32 a, .int .u32 b, .string s] w fun e w' => e = .returned (.tuple #[.int .u32 (Mt.run (a, b) s.data.toList).1, .int .u32 (Mt.run (a, b) s.data.toList).2]) ∧ w = w' := by
  unfold maxLen at hs
  go_enter Tryz.func199, Tryz.ntmps199
  go_wp2
  go_loop [0, 1, 11] (fun x y i => ∃ k : Nat, k ≤ s.size ∧ i = .int .i64 k ∧ x = .int .u32 (Mt.run (a, b) (s.data.toList.take k)).1 ∧ y = .int .u32 (Mt.run (a, b) (s.data.toList.take k)).2) (fun _ _ i => s.size - (intOf i).toNat)
  case atStart => exact ⟨0, Nat.zero_le _, rfl, rfl, rfl⟩
  case round =>
    obtain ⟨k, hk, rfl, rfl, rfl⟩ := hrel
    have hr := Mt.fit_run (a, b) (s.data.toList.take k) hf
    by_cases hlt : k < s.size
    · have HS : Hid (Mt.run (a, b) (s.data.toList.take (k + 1)) = Mt.step (Mt.run (a, b) (s.data.toList.take k)) s[k]) := Lib.hid (by rw [take_snoc s k hlt, Mt.run_snoc])
      obtain ⟨r1, r2, r3, r4⟩ := hr
      have hc := s[k].toNat_lt
      go_wp2
      go_round
      case rel => exact ⟨k + 1, by omega, by go_num, by rw [HS.out]; rfl, by rw [HS.out]; rfl⟩
      case measure => simp [intOf]; omega
    · have HK : Hid (s.data.toList.take k = s.data.toList) := Lib.hid (List.take_of_length_le (by simp; omega))
      go_wp2
      go_ret2
      exact ⟨ret_int2 (by rw [HK.out]) (by rw [HK.out]), rfl⟩
end

namespace Jn
structure Chg where
  no : Int
  page : List UInt8
def runW : Dk.St → List Chg → Dk.St × Int
  | s, [] => (Dk.flush s, Dk.flushE s)
  | s, c :: r => if Dk.writeE s c.no = 0 then runW (Dk.write s c.no c.page) r else (Dk.write s c.no c.page, Dk.writeE s c.no)
def runs : Dk.St → List (List Chg) → Dk.St × Int
  | s, [] => (s, 0)
  | s, l :: r => if (runW s l).2 = 0 then runs (runW s l).1 r else runW s l
def upd (L : List (List UInt8)) (cs : List Chg) : List (List UInt8) := cs.foldl (fun L c => L.set c.no.toNat c.page) L
def updAll (L : List (List UInt8)) (ls : List (List Chg)) : List (List UInt8) := ls.foldl upd L
def cupd (C : List (Option (List UInt8))) (cs : List Chg) : List (Option (List UInt8)) := cs.foldl (fun C c => C.set c.no.toNat (some c.page)) C
def Val (n : Nat) (cs : List Chg) : Prop := ∀ c ∈ cs, Dk.hasB n c.no = true ∧ c.page.length = 64
structure Cl (s : Dk.St) : Prop where
  ok : s.Ok
  up : s.down = false
  clean : s.cache = List.replicate s.last.length none
theorem upd_length (cs : List Chg) : ∀ L, (upd L cs).length = L.length := by
  induction cs with
  | nil => intro L; rfl
  | cons c r ih => intro L; show (upd (L.set _ _) r).length = _; rw [ih, List.length_set]
def nows (s : Dk.St) : List (List UInt8) := (List.range s.last.length).map (Dk.nowAt s)
theorem nows_length (s : Dk.St) : (nows s).length = s.last.length := by unfold nows; simp
theorem nows_at (s : Dk.St) (i : Nat) (hi : i < s.last.length) : (nows s)[i]? = some (Dk.nowAt s i) := by
  unfold nows
  rw [List.getElem?_map, List.getElem?_range hi]; rfl
theorem nows_put (s : Dk.St) (h : s.cache.length = s.last.length) (i : Nat) (p : List UInt8) : nows (Dk.put s i p) = (nows s).set i p := by
  apply List.ext_getElem?
  intro j
  have hl : (Dk.put s i p).last = s.last := rfl
  rw [List.getElem?_set, nows_length]
  by_cases hj : j < s.last.length
  · rw [nows_at _ _ (by rw [hl]; exact hj)]
    by_cases e : i = j
    · subst e
      rw [if_pos rfl, if_pos hj]
      congr 1
      unfold Dk.nowAt Dk.cacheAt Dk.put
      rw [List.getD_eq_getElem?_getD]
      simp only
      rw [List.getElem?_set_self (by omega)]; rfl
    · rw [if_neg e, nows_at _ _ hj]
      congr 1
      unfold Dk.nowAt Dk.cacheAt Dk.lastAt Dk.put
      simp only [List.getD_eq_getElem?_getD]
      rw [List.getElem?_set_ne e]
  · rw [List.getElem?_eq_none (by rw [nows_length, hl]; omega)]
    by_cases e : i = j
    · rw [if_pos e, if_neg (by omega)]
    · rw [if_neg e, List.getElem?_eq_none (by rw [nows_length]; omega)]
theorem nows_spend (s : Dk.St) : nows (Dk.spend s) = nows s := by
  unfold nows
  rw [Dk.spend_last]
  congr 1
  funext i
  unfold Dk.nowAt Dk.cacheAt Dk.lastAt
  rw [Dk.spend_last, Dk.spend_cache]
theorem nows_clean {s : Dk.St} (h : s.cache = List.replicate s.last.length none) : nows s = s.last := by
  apply List.ext_getElem?
  intro j
  by_cases hj : j < s.last.length
  · rw [nows_at _ _ hj]
    unfold Dk.nowAt Dk.cacheAt Dk.lastAt
    rw [h]
    simp only [List.getD_eq_getElem?_getD]
    rw [List.getElem?_replicate, if_pos hj, List.getElem?_eq_getElem hj]; rfl
  · rw [List.getElem?_eq_none (by rw [nows_length]; omega), List.getElem?_eq_none (by omega)]
theorem spend_fine {s : Dk.St} (h : Dk.spendE s = 0) : (Dk.spend s).down = s.down := by
  unfold Dk.spendE at h
  unfold Dk.spend
  by_cases c : s.lim = true
  · rw [if_pos c]
    by_cases e : s.left = 0
    · rw [if_pos ⟨c, e⟩] at h; omega
    · rw [if_neg e]
  · rw [if_neg c]
theorem spend_broke {s : Dk.St} (h : Dk.spendE s ≠ 0) : s.lim = true ∧ Dk.spend s = { s with down := true } ∧ Dk.spendE s = 5 := by
  have h5 : Dk.spendE s = 5 := by rcases Dk.spend_vals s with e | e; exact absurd e h; exact e
  unfold Dk.spendE at h
  by_cases c : s.lim = true ∧ s.left = 0
  · refine ⟨c.1, ?_, h5⟩
    unfold Dk.spend
    rw [if_pos c.1, if_pos c.2]
  · rw [if_neg c] at h; exact absurd rfl h
theorem runW_spec (cs : List Chg) : ∀ (s : Dk.St), s.Ok → s.down = false → Val s.last.length cs →
    ((runW s cs).2 = 0 ∧ Cl (runW s cs).1 ∧ (runW s cs).1.lim = s.lim ∧ (runW s cs).1.last = upd (nows s) cs) ∨
    ((runW s cs).2 = 5 ∧ s.lim = true ∧ (runW s cs).1.Ok ∧ (runW s cs).1.down = true ∧ (runW s cs).1.last = s.last ∧ ∃ k, (runW s cs).1.cache = cupd s.cache (cs.take k)) := by
  induction cs with
  | nil =>
    intro s hok hup _
    unfold runW Dk.flush Dk.flushE
    rw [hup]
    by_cases h : Dk.spendE s = 0
    · left
      simp only [Bool.false_eq_true, if_false, h, if_true]
      refine ⟨trivial, ⟨Dk.flushed_ok (Dk.spend_ok hok), ?_, ?_⟩, ?_, ?_⟩
      · show (Dk.spend s).down = false
        rw [spend_fine h]; exact hup
      · unfold Dk.flushed
        simp
      · show (Dk.spend s).lim = s.lim
        exact Dk.spend_lim s
      · show nows (Dk.spend s) = upd (nows s) []
        rw [nows_spend]; rfl
    · right
      simp only [Bool.false_eq_true, if_false, h]
      obtain ⟨h1, h2, h3⟩ := spend_broke h
      refine ⟨h3, h1, Dk.spend_ok hok, ?_, Dk.spend_last s, 0, Dk.spend_cache s⟩
      rw [h2]
  | cons c r ih =>
    intro s hok hup hv
    have hc := hv c (by simp)
    have hr : Dk.reachE s c.no = 0 := Dk.reach_mk hup hc.1
    have hw : Dk.writeE s c.no = Dk.spendE s := by unfold Dk.writeE; rw [if_pos hr]
    unfold runW
    rw [hw]
    by_cases h : Dk.spendE s = 0
    · rw [if_pos h]
      have he : Dk.write s c.no c.page = Dk.put (Dk.spend s) c.no.toNat c.page := by unfold Dk.write; rw [if_pos hr, if_pos h]
      have hl : (Dk.put (Dk.spend s) c.no.toNat c.page).last = s.last := Dk.spend_last s
      have hok' : (Dk.put (Dk.spend s) c.no.toNat c.page).Ok := Dk.put_ok (Dk.spend_ok hok) _ hc.2
      have hup' : (Dk.put (Dk.spend s) c.no.toNat c.page).down = false := by show (Dk.spend s).down = false; rw [spend_fine h]; exact hup
      rw [he]
      rcases ih _ hok' hup' (by rw [hl]; exact fun x hx => hv x (by simp [hx])) with ⟨a1, a2, a3, a4⟩ | ⟨a1, a2, a3, a4, a5, k, a6⟩
      · left
        refine ⟨a1, a2, a3.trans (Dk.spend_lim s), a4.trans ?_⟩
        rw [nows_put _ (Dk.spend_ok hok).same, nows_spend]; rfl
      · right
        refine ⟨a1, ?_, a3, a4, a5.trans hl, k + 1, ?_⟩
        · rw [← Dk.spend_lim s]; exact a2
        · rw [a6]
          show cupd ((Dk.spend s).cache.set _ _) _ = _
          rw [Dk.spend_cache]; rfl
    · rw [if_neg h]
      right
      obtain ⟨h1, h2, h3⟩ := spend_broke h
      have he : Dk.write s c.no c.page = Dk.spend s := by unfold Dk.write; rw [if_pos hr, if_neg h]
      refine ⟨h3, h1, ?_, ?_, ?_, 0, ?_⟩
      · rw [he]; exact Dk.spend_ok hok
      · rw [he, h2]
      · rw [he]; exact Dk.spend_last s
      · rw [he]; exact Dk.spend_cache s
theorem crashTo_at (s : Dk.St) (keep : List UInt8) : ∀ k i, (Dk.crashTo s keep k).1.getD i [] = Dk.lastAt s i ∨ ∃ p b, Dk.cacheAt s i = some p ∧ (Dk.crashTo s keep k).1.getD i [] = Dk.torn (Dk.lastAt s i) p b
  | 0, i => Or.inl rfl
  | k + 1, i => by
    rw [Dk.crashTo]
    rcases Dk.crashOne_cases s k (Dk.crashTo s keep k) with e | ⟨p, c, r, hp, _, e⟩
    · rw [e]; exact crashTo_at s keep k i
    · rw [e]
      by_cases hki : k = i
      · subst hki
        simp only [List.getD_eq_getElem?_getD]
        rw [List.getElem?_set]
        rw [if_pos rfl]
        by_cases hl : k < (Dk.crashTo s keep k).1.length
        · rw [if_pos hl]
          exact Or.inr ⟨p, c, hp, rfl⟩
        · rw [if_neg hl]
          rw [Dk.crashTo_len] at hl
          left
          unfold Dk.lastAt
          rw [List.getD_eq_getElem?_getD, List.getElem?_eq_none (l := s.last) (by omega)]
      · simp only [List.getD_eq_getElem?_getD]
        rw [List.getElem?_set_ne hki, ← List.getD_eq_getElem?_getD]
        exact crashTo_at s keep k i
theorem getD_ext {α : Type} (d : α) {a b : List α} (hl : a.length = b.length) (h : ∀ i, i < a.length → a.getD i d = b.getD i d) : a = b := by
  apply List.ext_getElem hl
  intro i h1 h2
  have := h i h1
  rw [List.getD_eq_getElem?_getD, List.getD_eq_getElem?_getD, List.getElem?_eq_getElem h1, List.getElem?_eq_getElem h2] at this
  exact this
theorem cacheAt_none {s : Dk.St} (h : s.cache = List.replicate s.last.length none) (i : Nat) : Dk.cacheAt s i = none := by
  unfold Dk.cacheAt
  rw [h, List.getD_eq_getElem?_getD, List.getElem?_replicate]
  split <;> rfl
theorem cupd_mem (cs : List Chg) : ∀ (C : List (Option (List UInt8))) (i : Nat) (p : List UInt8), (cupd C cs).getD i none = some p → C.getD i none = some p ∨ ∃ c ∈ cs, c.no.toNat = i ∧ c.page = p := by
  induction cs with
  | nil => intro C i p h; exact Or.inl h
  | cons c r ih =>
    intro C i p h
    rcases ih (C.set c.no.toNat (some c.page)) i p h with e | ⟨x, hx, e⟩
    · by_cases hci : c.no.toNat = i
      · rw [List.getD_eq_getElem?_getD, List.getElem?_set, if_pos hci] at e
        by_cases hl : c.no.toNat < C.length
        · rw [if_pos hl] at e
          exact Or.inr ⟨c, by simp, hci, by simpa using e⟩
        · rw [if_neg hl] at e; cases e
      · rw [List.getD_eq_getElem?_getD, List.getElem?_set_ne hci, ← List.getD_eq_getElem?_getD] at e
        exact Or.inl e
    · exact Or.inr ⟨x, by simp [hx], e⟩
structure Trn (L : List (List UInt8)) (cs : List Chg) (L' : List (List UInt8)) : Prop where
  len : L'.length = L.length
  pages : ∀ p ∈ L', p.length = 64
  each : ∀ i, L'.getD i [] = L.getD i [] ∨ ∃ c ∈ cs, c.no.toNat = i ∧ ∃ b, L'.getD i [] = Dk.torn (L.getD i []) c.page b
theorem Trn.other {L : List (List UInt8)} {cs : List Chg} {L' : List (List UInt8)} (h : Trn L cs L') {i : Nat} (hi : ∀ c ∈ cs, c.no.toNat ≠ i) : L'.getD i [] = L.getD i [] := by
  rcases h.each i with e | ⟨c, hc, e, _⟩
  · exact e
  · exact absurd e (hi c hc)
theorem Trn.one {L : List (List UInt8)} {x : Chg} {L' : List (List UInt8)} (h : Trn L [x] L') : L'.getD x.no.toNat [] = L.getD x.no.toNat [] ∨ ∃ b, L'.getD x.no.toNat [] = Dk.torn (L.getD x.no.toNat []) x.page b := by
  rcases h.each x.no.toNat with e | ⟨c, hc, _, b, e⟩
  · exact Or.inl e
  · rw [List.mem_singleton] at hc
    subst hc
    exact Or.inr ⟨b, e⟩
theorem runs_spec (ls : List (List Chg)) : ∀ (s : Dk.St), Cl s → (∀ l ∈ ls, Val s.last.length l) →
    ((runs s ls).2 = 0 ∧ Cl (runs s ls).1 ∧ (runs s ls).1.lim = s.lim ∧ (runs s ls).1.last = updAll s.last ls) ∨
    ((runs s ls).2 = 5 ∧ s.lim = true ∧ (runs s ls).1.Ok ∧ ∃ j, j < ls.length ∧ ∀ keep, Trn (updAll s.last (ls.take j)) (ls.getD j []) (Dk.crash (runs s ls).1 keep).last) := by
  induction ls with
  | nil => intro s h _; exact Or.inl ⟨rfl, h, rfl, rfl⟩
  | cons l r ih =>
    intro s h hv
    unfold runs
    rcases runW_spec l s h.ok h.up (hv l (by simp)) with ⟨a1, a2, a3, a4⟩ | ⟨a1, a2, a3, a4, a5, k, a6⟩
    · rw [if_pos a1]
      rw [nows_clean h.clean] at a4
      have hlen : (runW s l).1.last.length = s.last.length := by rw [a4, upd_length]
      rcases ih _ a2 (by rw [hlen]; exact fun x hx => hv x (by simp [hx])) with ⟨b1, b2, b3, b4⟩ | ⟨b1, b2, b3, j, hj, b4⟩
      · left
        exact ⟨b1, b2, b3.trans a3, by rw [b4, a4]; rfl⟩
      · right
        refine ⟨b1, by rw [← a3]; exact b2, b3, j + 1, by simpa using hj, fun keep => ?_⟩
        have := b4 keep
        rw [a4] at this
        exact this
    · rw [if_neg (by omega)]
      right
      refine ⟨a1, a2, a3, 0, by simp, fun keep => ⟨?_, Dk.crashTo_pages a3 keep _ (Nat.le_refl _), fun i => ?_⟩⟩
      · rw [Dk.crash_len, a5]; rfl
      · have e0 : Dk.lastAt (runW s l).1 i = s.last.getD i [] := by unfold Dk.lastAt; rw [a5]
        show (Dk.crashTo _ keep _).1.getD i [] = s.last.getD i [] ∨ ∃ c ∈ l, _
        rcases crashTo_at (runW s l).1 keep (runW s l).1.last.length i with e | ⟨p, b, hp, e⟩
        · left; rw [e, e0]
        · right
          unfold Dk.cacheAt at hp
          rw [a6] at hp
          rcases cupd_mem _ _ _ _ hp with q | ⟨c, hc, hci, hcp⟩
          · have := cacheAt_none h.clean i
            unfold Dk.cacheAt at this
            rw [this] at q; cases q
          · refine ⟨c, List.mem_of_mem_take hc, hci, b, ?_⟩
            exact e.trans (by rw [e0, hcp]; rfl)
end Jn
end Go.Proofs.YtmpfcgjjejlhdaaGreat
