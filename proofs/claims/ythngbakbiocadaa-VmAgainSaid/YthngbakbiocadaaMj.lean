/-
  What a run leaves: it ends in time; maps keep their room; an Ask hook keeps the keys; one that never calls is blind to the maps.
-/
import Derived.Test.YthngbakbiocadaaMi
import Derived.BigQuiet
import Derived.Test.YthngbakbiocadaaMb
import Derived.Laws.IdiomCopy

namespace Go.Proofs.Ythngbakbiocadaa.V
set_option maxRecDepth 100000

structure Blind (p : St → Prop) : Prop where
  at_ : ∀ s a, p s → p { s with at_ := a }
  steps : ∀ s n, p s → p { s with steps := n }
theorem setD_steps (s : St) (m : Nat) (l : List Z.En) : (s.setD m l).steps = s.steps := by unfold St.setD; split <;> rfl
theorem setD_ctx (s : St) (m : Nat) (l : List Z.En) : (s.setD m l).ctx = s.ctx := by unfold St.setD; split <;> rfl
theorem setD_reg (s : St) (m : Nat) (l : List Z.En) : (s.setD m l).reg = s.reg := by unfold St.setD; split <;> rfl
theorem setD_stk (s : St) (m : Nat) (l : List Z.En) : (s.setD m l).stk = s.stk := by unfold St.setD; split <;> rfl
theorem setD_ds {s : St} {m : Nat} {d : Dt} (h : s.ds[m]? = some d) (l : List Z.En) : (s.setD m l).ds = s.ds.set m ⟨d.lru, d.room, l⟩ := by unfold St.setD; rw [h]
theorem steps_keeps (n : Nat) : Keeps (fun t => t.steps = n) := ⟨fun _ _ _ h => h, fun _ _ _ h => h, fun _ _ h => h, fun _ _ _ h => h, fun _ h => h⟩
theorem steps_keepsD (h : Int) (n : Nat) : KeepsD h (fun t => t.steps = n) := ⟨fun s m d k _ hs => by rw [setD_steps]; exact hs, fun s m d k j n _ hs => by rw [setD_steps]; exact hs, fun s m d x _ _ hs => by rw [setD_steps]; exact hs, fun s m d k _ _ hs => by rw [setD_steps]; exact hs⟩
theorem Keeps.and {p q : St → Prop} (h : Keeps p) (g : Keeps q) : Keeps (fun s => p s ∧ q s) :=
  ⟨fun s i c hs => ⟨h.setR s i c hs.1, g.setR s i c hs.2⟩, fun s i c hs => ⟨h.setS s i c hs.1, g.setS s i c hs.2⟩, fun s o hs => ⟨h.jump s o hs.1, g.jump s o hs.2⟩, fun s i n hs => ⟨h.setC s i n hs.1, g.setC s i n hs.2⟩, fun s hs => ⟨h.clear s hs.1, g.clear s hs.2⟩⟩
theorem KeepsD.and {h : Int} {p q : St → Prop} (a : KeepsD h p) (b : KeepsD h q) : KeepsD h (fun s => p s ∧ q s) :=
  ⟨fun s m d k e hs => ⟨a.use s m d k e hs.1, b.use s m d k e hs.2⟩, fun s m d k j n e hs => ⟨a.word s m d k j n e hs.1, b.word s m d k j n e hs.2⟩, fun s m d x e1 e hs => ⟨a.put s m d x e1 e hs.1, b.put s m d x e1 e hs.2⟩, fun s m d k e1 e hs => ⟨a.drop s m d k e1 e hs.1, b.drop s m d k e1 e hs.2⟩⟩
def Good (p : St → Prop) (f : Fin) : Prop := (f.how = 1 ∧ f.why = 0 ∨ f.how = 2 ∧ (1 ≤ f.why ∧ f.why ≤ 13) ∧ f.verdict = 0) ∧ f.s.steps ≤ 64 ∧ (f.why = 1 → f.s.steps = 64) ∧ p f.s
theorem good_flt {p : St → Prop} {s : St} {w : Nat} (h : (3 ≤ w ∧ w ≤ 13) ∨ w = 2 ∨ (w = 1 ∧ s.steps = 64)) (hs : s.steps ≤ 64) (hp : p s) : Good p ⟨2, w, 0, s⟩ := by
  refine ⟨Or.inr ⟨rfl, ⟨?_, ?_⟩, rfl⟩, hs, fun e => ?_, hp⟩
  · show 1 ≤ w; omega
  · show w ≤ 13; omega
  · have e' : w = 1 := e
    show s.steps = 64
    omega
theorem good_done {p : St → Prop} {s : St} {v : Int} (hs : s.steps ≤ 64) (hp : p s) : Good p ⟨1, 0, v, s⟩ :=
  ⟨Or.inl ⟨rfl, rfl⟩, hs, fun e => absurd e (by show ¬ 0 = 1; omega), hp⟩
theorem step_fuel {K : Calc} {hi : Int → Bool} {h : Int} {l : List Y.In} {s : St} (e : 64 ≤ s.steps) : step K hi h l s = .flt 1 s := by unfold step; rw [if_pos e]
theorem step_below {K : Calc} {hi : Int → Bool} {h : Int} {l : List Y.In} {s : St} (e : ¬ 64 ≤ s.steps) (g : s.at_ < 0) : step K hi h l s = .flt 2 s := by unfold step; rw [if_neg e, if_pos g]
theorem step_out {K : Calc} {hi : Int → Bool} {h : Int} {l : List Y.In} {s : St} (e : ¬ 64 ≤ s.steps) (g : ¬ s.at_ < 0) (hx : l[s.at_.toNat]? = none) : step K hi h l s = .flt 2 s := by unfold step; rw [if_neg e, if_neg g, hx]
theorem step_in {K : Calc} {hi : Int → Bool} {h : Int} {l : List Y.In} {s : St} {x : Y.In} (e : ¬ 64 ≤ s.steps) (g : ¬ s.at_ < 0) (hx : l[s.at_.toNat]? = some x) : step K hi h l s = bump (exec K hi h x { s with at_ := s.at_ + 1 }) := by unfold step; rw [if_neg e, if_neg g, hx]
theorem run_ends (K : Calc) (hi : Int → Bool) (h : Int) (l : List Y.In) {p : St → Prop} (hk : Keeps p) (hd : KeepsD h p) (hb : Blind p) : ∀ (n : Nat) (s : St), s.steps ≤ 64 → 65 ≤ s.steps + n → p s → Good p (run K hi h l n s)
  | 0, s, h1, h2, _ => by omega
  | n + 1, s, h1, h2, hp => by
    unfold run
    by_cases h64 : 64 ≤ s.steps
    · rw [step_fuel h64]
      exact good_flt (Or.inr (Or.inr ⟨rfl, by omega⟩)) h1 hp
    · by_cases hat : s.at_ < 0
      · rw [step_below h64 hat]
        exact good_flt (Or.inr (Or.inl rfl)) h1 hp
      · cases hx : l[s.at_.toNat]? with
        | none =>
          rw [step_out h64 hat hx]
          exact good_flt (Or.inr (Or.inl rfl)) h1 hp
        | some x =>
          rw [step_in h64 hat hx]
          have he := exec_P K hi (hk.and (steps_keeps s.steps)) (hd.and (steps_keepsD h s.steps)) (x := x) (s := { s with at_ := s.at_ + 1 }) ⟨hb.at_ s _ hp, rfl⟩
          cases hr : exec K hi h x { s with at_ := s.at_ + 1 } with
          | on s' =>
            rw [hr] at he
            obtain ⟨g1, g2⟩ := he
            have g2' : s'.steps = s.steps := g2
            exact run_ends K hi h l hk hd hb n { s' with steps := s'.steps + 1 } (by show s'.steps + 1 ≤ 64; omega) (by show 65 ≤ s'.steps + 1 + n; omega) (hb.steps s' _ g1)
          | done v s' =>
            rw [hr] at he
            obtain ⟨g1, g2⟩ := he
            have g2' : s'.steps = s.steps := g2
            exact good_done (s := { s' with steps := s'.steps + 1 }) (by show s'.steps + 1 ≤ 64; omega) (hb.steps s' _ g1)
          | flt w s' =>
            rw [hr] at he
            obtain ⟨hw, g1, g2⟩ := he
            have g2' : s'.steps = s.steps := g2
            exact good_flt (Or.inl hw) (by omega) g1
/-! ### maps keep their kind and room -/
theorem useI_len (lru : Bool) (l : List Z.En) (k : Int) : (Z.useI lru l k).length = l.length := by
  unfold Z.useI
  cases hp : Z.pos k l with
  | none => rfl
  | some i =>
    obtain ⟨x, hx, _, _⟩ := Z.pos_some hp
    have hi := (List.getElem?_eq_some_iff.1 hx).1
    simp only [hx]
    cases lru with
    | false => rfl
    | true =>
      show (l.eraseIdx i ++ [x]).length = l.length
      rw [List.length_append, List.length_eraseIdx_of_lt hi, List.length_singleton]
      omega
theorem wordI_len (l : List Z.En) (k : Int) (j : Nat) (n : Int) : (Z.wordI l k j n).length = l.length := by
  unfold Z.wordI
  cases hp : Z.pos k l with
  | none => rfl
  | some i =>
    obtain ⟨x, hx, _, _⟩ := Z.pos_some hp
    simp only [hx, List.length_set]
theorem dropI_len (l : List Z.En) (k : Int) : (Z.dropI l k).length ≤ l.length := by
  unfold Z.dropI
  cases hp : Z.pos k l with
  | none => exact Nat.le_refl _
  | some i => simp only [List.length_eraseIdx]; split <;> omega
theorem has_word {l : List Z.En} {k : Int} {j : Nat} {n q : Int} (h : Z.has q l = true) : Z.has q (Z.wordI l k j n) = true := by
  unfold Z.wordI
  cases hp : Z.pos k l with
  | none => exact h
  | some i =>
    obtain ⟨x, hx, _, _⟩ := Z.pos_some hp
    simp only [hx]
    obtain ⟨e, he, hq⟩ := (Z.has_iff _ _).1 h
    obtain ⟨t, ht, hte⟩ := List.getElem_of_mem he
    rw [Z.has_iff]
    by_cases hit : i = t
    · subst hit
      rw [List.getElem?_eq_getElem ht, hte] at hx
      injection hx with hx
      subst hx
      exact ⟨e.word j n, List.mem_of_getElem? (List.getElem?_set_self ht), by rw [Z.En.word_key]; exact hq⟩
    · exact ⟨e, List.mem_of_getElem? (by rw [List.getElem?_set_ne hit, List.getElem?_eq_getElem ht, hte]), hq⟩
theorem has_use {lru : Bool} {l : List Z.En} {k q : Int} (h : Z.has q l = true) : Z.has q (Z.useI lru l k) = true := by
  unfold Z.useI
  cases hp : Z.pos k l with
  | none => exact h
  | some i =>
    obtain ⟨x, hx, _, _⟩ := Z.pos_some hp
    simp only [hx]
    cases lru with
    | false => exact h
    | true =>
      simp only [if_true]
      obtain ⟨e, he, hq⟩ := (Z.has_iff _ _).1 h
      obtain ⟨t, ht, hte⟩ := List.getElem_of_mem he
      rw [Z.has_iff]
      by_cases hit : i = t
      · subst hit
        rw [List.getElem?_eq_getElem ht, hte] at hx
        injection hx with hx
        subst hx
        exact ⟨e, by simp, hq⟩
      · refine ⟨e, List.mem_append_left _ ?_, hq⟩
        rw [List.mem_eraseIdx_iff_getElem?]
        exact ⟨t, fun e => hit e.symm, by rw [List.getElem?_eq_getElem ht, hte]⟩
/-- beside the maps that were there at the beginning -/
def Beside (P : Dt → Dt → Prop) (ds0 : List Dt) (s : St) : Prop := s.ds.length = ds0.length ∧ ∀ (i : Nat) (d0 d : Dt), ds0[i]? = some d0 → s.ds[i]? = some d → P d0 d
theorem beside_keeps (P : Dt → Dt → Prop) (ds0 : List Dt) : Keeps (Beside P ds0) := ⟨fun _ _ _ h => h, fun _ _ _ h => h, fun _ _ h => h, fun _ _ _ h => h, fun _ h => h⟩
theorem beside_blind (P : Dt → Dt → Prop) (ds0 : List Dt) : Blind (Beside P ds0) := ⟨fun _ _ h => h, fun _ _ h => h⟩
theorem beside_set {P : Dt → Dt → Prop} {ds0 : List Dt} {s : St} {m : Nat} {d : Dt} {l : List Z.En} (hm : s.ds[m]? = some d) (hs : Beside P ds0 s) (hP : ∀ d0, P d0 d → P d0 ⟨d.lru, d.room, l⟩) : Beside P ds0 (s.setD m l) := by
  unfold Beside
  rw [setD_ds hm]
  refine ⟨by rw [List.length_set]; exact hs.1, fun i d0 q h0 hq => ?_⟩
  by_cases e : m = i
  · subst e
    rw [List.getElem?_set_self (List.getElem?_eq_some_iff.1 hm).1] at hq
    injection hq with hq
    subst hq
    exact hP d0 (hs.2 m d0 d h0 hm)
  · rw [List.getElem?_set_ne e] at hq
    exact hs.2 i d0 q h0 hq
def Fits (d0 d : Dt) : Prop := d.ok ∧ d.lru = d0.lru ∧ d.room = d0.room
theorem fits_keepsD (h : Int) (ds0 : List Dt) : KeepsD h (Beside Fits ds0) :=
  ⟨fun s m d k hm hs => beside_set hm hs (fun d0 ⟨⟨a1, a2⟩, b, c⟩ => ⟨⟨by show (Z.useI d.lru d.l k).length ≤ d.room; rw [useI_len]; exact a1, a2⟩, b, c⟩),
   fun s m d k j n hm hs => beside_set hm hs (fun d0 ⟨⟨a1, a2⟩, b, c⟩ => ⟨⟨by show (Z.wordI d.l k j n).length ≤ d.room; rw [wordI_len]; exact a1, a2⟩, b, c⟩),
   fun s m d x _ hm hs => beside_set hm hs (fun d0 ⟨a, b, c⟩ => ⟨Dt.ok_put a x, b, c⟩),
   fun s m d k _ hm hs => beside_set hm hs (fun d0 ⟨⟨a1, a2⟩, b, c⟩ => ⟨⟨Nat.le_trans (dropI_len _ _) a1, a2⟩, b, c⟩)⟩
def Keys (d0 d : Dt) : Prop := d.l.length = d0.l.length ∧ ∀ k, Z.has k d0.l = true → Z.has k d.l = true
theorem keys_keepsD {h : Int} (ht : Hk.toldF h = false) (ds0 : List Dt) : KeepsD h (Beside Keys ds0) :=
  ⟨fun s m d k hm hs => beside_set hm hs (fun d0 ⟨a, b⟩ => ⟨by show (Z.useI d.lru d.l k).length = _; rw [useI_len]; exact a, fun q hq => has_use (b q hq)⟩),
   fun s m d k j n hm hs => beside_set hm hs (fun d0 ⟨a, b⟩ => ⟨by show (Z.wordI d.l k j n).length = _; rw [wordI_len]; exact a, fun q hq => has_word (b q hq)⟩),
   fun s m d x h3 _ _ => absurd h3 (by unfold Hk.argsF; rw [ht]; split <;> simp),
   fun s m d k h4 _ _ => absurd h4 (by unfold Hk.argsF; rw [ht]; split <;> simp)⟩
theorem ctx_keeps (c : Nat) : Keeps (fun s => s.ctx.length = c) := ⟨fun _ _ _ h => h, fun _ _ _ h => h, fun _ _ h => h, fun s i n h => by show (s.ctx.set _ _).length = c; rw [List.length_set]; exact h, fun _ h => h⟩
theorem ctx_keepsD (h : Int) (c : Nat) : KeepsD h (fun s => s.ctx.length = c) := ⟨fun s m d k _ hs => by rw [setD_ctx]; exact hs, fun s m d k j n _ hs => by rw [setD_ctx]; exact hs, fun s m d x _ _ hs => by rw [setD_ctx]; exact hs, fun s m d k _ _ hs => by rw [setD_ctx]; exact hs⟩
theorem ctx_blind (c : Nat) : Blind (fun s => s.ctx.length = c) := ⟨fun _ _ h => h, fun _ _ h => h⟩
/-! ### a run that never calls -/
def NoRef (s : St) : Prop := (∀ i, isRef (s.reg.getD i .no) = false) ∧ ∀ i, isRef (s.stk.getD i .no) = false
def St.withD (s : St) (D : List Dt) : St := { s with ds := D }
def Res.withD (D : List Dt) : Res → Res
  | .on s => .on (s.withD D)
  | .done v s => .done v (s.withD D)
  | .flt w s => .flt w (s.withD D)
theorem getD_set (l : List Cell) (i j : Nat) (c : Cell) (h : isRef c = false) (hl : isRef (l.getD j .no) = false) : isRef ((l.set i c).getD j .no) = false := by
  rw [List.getD_eq_getElem?_getD] at hl ⊢
  rw [List.getElem?_set]
  split
  · split
    · exact h
    · rfl
  · exact hl
theorem NoRef.setR {s : St} {i : Int} {c : Cell} (h : NoRef s) (hc : isRef c = false) : NoRef (s.setR i c) := ⟨fun j => getD_set _ _ _ _ hc (h.1 j), h.2⟩
theorem NoRef.setS {s : St} {i : Int} {c : Cell} (h : NoRef s) (hc : isRef c = false) : NoRef (s.setS i c) := ⟨h.1, fun j => getD_set _ _ _ _ hc (h.2 j)⟩
/-- the same with other maps, and the maps stay -/
def Pure (D : List Dt) (s : St) (A' A : Res) : Prop := A' = A.withD D ∧ NoRef A.st ∧ A.st.ds = s.ds
section
variable {D : List Dt} {s : St}
theorem ite_D {c : Prop} [Decidable c] {A A' B B' : Res} (ha : c → Pure D s A' A) (hb : ¬ c → Pure D s B' B) : Pure D s (if c then A' else B') (if c then A else B) := by
  by_cases h : c
  · rw [if_pos h, if_pos h]; exact ha h
  · rw [if_neg h, if_neg h]; exact hb h
theorem same_D {A : Res} (h1 : NoRef A.st) (h2 : A.st.ds = s.ds) : Pure D s (A.withD D) A := ⟨rfl, h1, h2⟩
theorem nm_D {c : Cell} {f f' : Int → Res} (hs : NoRef s) (hf : ∀ n, Pure D s (f' n) (f n)) : Pure D s (match c.nm with
    | .error w => .flt w (s.withD D)
    | .ok n => f' n : Res) (match c.nm with
    | .error w => .flt w s
    | .ok n => f n : Res) := by
  cases hc : c.nm with
  | error w => exact ⟨rfl, hs, rfl⟩
  | ok n => exact hf n
theorem rd_D {c d : Cell} {f f' : Int → Int → Res} (hs : NoRef s) (hf : ∀ a b, Pure D s (f' a b) (f a b)) : Pure D s (match rd2 c d with
    | .error w => .flt w (s.withD D)
    | .ok (a, b) => f' a b : Res) (match rd2 c d with
    | .error w => .flt w s
    | .ok (a, b) => f a b : Res) := by
  cases hc : rd2 c d with
  | error w => exact ⟨rfl, hs, rfl⟩
  | ok n => obtain ⟨a, b⟩ := n; exact hf a b
theorem flt_D (hs : NoRef s) (w : Nat) : Pure D s (.flt w (s.withD D)) (.flt w s) := ⟨rfl, hs, rfl⟩
theorem on_D {t : St} (h1 : NoRef t) (h2 : t.ds = s.ds) : Pure D s (.on (t.withD D)) (.on t) := ⟨rfl, h1, h2⟩
theorem ldctx_D (hs : NoRef s) (dst i : Int) : Pure D s (ldctx dst i (s.withD D)) (ldctx dst i s) := by
  unfold ldctx
  exact ite_D (fun _ => flt_D hs 5) (fun _ => on_D (t := s.setR dst (.num (s.ctx.getD i.toNat 0))) (hs.setR rfl) rfl)
theorem stctx_D (hs : NoRef s) (h i n : Int) : Pure D s (stctx h i n (s.withD D)) (stctx h i n s) := by
  unfold stctx
  exact ite_D (fun _ => flt_D hs 5) (fun _ => ite_D (fun _ => flt_D hs 6) (fun _ => on_D (t := s.setC i n) hs rfl))
theorem ldstk_D (hs : NoRef s) (dst i : Int) : Pure D s (ldstk dst i (s.withD D)) (ldstk dst i s) := by
  unfold ldstk
  exact ite_D (fun _ => flt_D hs 7) (fun _ => ite_D (fun _ => flt_D hs 8) (fun _ => on_D (t := s.setR dst (s.stk.getD i.toNat .no)) (hs.setR (hs.2 _)) rfl))
theorem ststk_D (hs : NoRef s) (i n : Int) : Pure D s (ststk i n (s.withD D)) (ststk i n s) := by
  unfold ststk
  exact ite_D (fun _ => flt_D hs 7) (fun _ => on_D (t := s.setS i (.num n)) (hs.setS rfl) rfl)
theorem ldval_D (hs : NoRef s) {c : Cell} (hc : isRef c = false) (dst off : Int) : Pure D s (ldval c dst off (s.withD D)) (ldval c dst off s) := by
  cases c with
  | no => exact flt_D hs 3
  | num n => exact flt_D hs 9
  | ref k m => cases hc
theorem stval_D (hs : NoRef s) {c e : Cell} (hc : isRef c = false) (off : Int) : Pure D s (stval c e off (s.withD D)) (stval c e off s) := by
  unfold stval
  refine ite_D (fun _ => flt_D hs 3) (fun _ => nm_D hs (fun n => ?_))
  cases c with
  | no => exact flt_D hs 9
  | num n => exact flt_D hs 9
  | ref k m => cases hc
theorem alu_D (hs : NoRef s) (K : Calc) (x : Y.In) (a b : Int) : Pure D s (alu K x a b (s.withD D)) (alu K x a b s) := by
  unfold alu
  exact ite_D (fun _ => on_D (t := s.setR x.dst (.num (K.ari x.op a b))) (hs.setR rfl) rfl) (fun _ => ite_D (fun _ => on_D (t := s.jump x.off) hs rfl) (fun _ => on_D hs rfl))
theorem other_D (hs : NoRef s) (K : Calc) (imm : Bool) (x : Y.In) : Pure D s (other K imm x (s.withD D)) (other K imm x s) := by
  unfold other
  refine ite_D (fun _ => ite_D (fun _ => on_D (t := s.jump x.off) hs rfl) (fun _ => on_D hs rfl)) (fun _ => ?_)
  cases imm with
  | true => exact nm_D hs (fun a => alu_D hs K x a x.imm)
  | false => exact rd_D hs (fun a b => alu_D hs K x a b)
theorem exec_D (K : Calc) (hi : Int → Bool) (h : Int) {x : Y.In} (hs : NoRef s) (h64 : x.op ≠ 64) : Pure D s (exec K hi h x (s.withD D)) (exec K hi h x s) := by
  unfold exec
  refine ite_D (fun _ => nm_D hs fun n => ⟨rfl, hs, rfl⟩) fun _ => ?_
  refine ite_D (fun _ => ite_D (fun _ => flt_D hs 3) fun _ => on_D (t := s.setR x.dst (s.r x.src)) (hs.setR (hs.1 _)) rfl) fun _ => ?_
  refine ite_D (fun _ => on_D (t := s.setR x.dst (.num x.imm)) (hs.setR rfl) rfl) fun _ => ?_
  refine ite_D (fun e => absurd e h64) fun _ => ?_
  refine ite_D (fun _ => on_D (t := s.jump x.off) hs rfl) fun _ => ?_
  refine ite_D (fun _ => ldctx_D hs _ _) fun _ => ?_
  refine ite_D (fun _ => nm_D hs fun _ => stctx_D hs _ _ _) fun _ => ?_
  refine ite_D (fun _ => nm_D hs fun _ => ldctx_D hs _ _) fun _ => ?_
  refine ite_D (fun _ => ldstk_D hs _ _) fun _ => ?_
  refine ite_D (fun _ => nm_D hs fun _ => ststk_D hs _ _) fun _ => ?_
  refine ite_D (fun _ => nm_D hs fun _ => ldstk_D hs _ _) fun _ => ?_
  refine ite_D (fun _ => rd_D hs fun _ _ => ststk_D hs _ _) fun _ => ?_
  refine ite_D (fun _ => ldval_D hs (hs.1 _) _ _) fun _ => ?_
  refine ite_D (fun _ => stval_D hs (hs.1 _) _) fun _ => ?_
  exact other_D hs K _ x
end
def Fin.withD (D : List Dt) (f : Fin) : Fin := { f with s := f.s.withD D }
theorem run_pure (K : Calc) (hi : Int → Bool) (h : Int) (l : List Y.In) (hl : ∀ x ∈ l, x.op ≠ 64) (D : List Dt) : ∀ (n : Nat) (s : St), NoRef s → run K hi h l n (s.withD D) = (run K hi h l n s).withD D ∧ (run K hi h l n s).s.ds = s.ds
  | 0, s, _ => ⟨rfl, rfl⟩
  | n + 1, s, hs => by
    unfold run
    by_cases h64 : 64 ≤ s.steps
    · rw [step_fuel h64, step_fuel (s := s.withD D) h64]; exact ⟨rfl, rfl⟩
    · by_cases hat : s.at_ < 0
      · rw [step_below h64 hat, step_below (s := s.withD D) h64 hat]; exact ⟨rfl, rfl⟩
      · cases hx : l[s.at_.toNat]? with
        | none => rw [step_out h64 hat hx, step_out (s := s.withD D) h64 hat hx]; exact ⟨rfl, rfl⟩
        | some x =>
          rw [step_in h64 hat hx, step_in (s := s.withD D) h64 hat hx]
          obtain ⟨he, g1, g2⟩ := exec_D (D := D) (s := { s with at_ := s.at_ + 1 }) K hi h (x := x) hs (hl x (List.mem_of_getElem? hx))
          have he' : exec K hi h x { s.withD D with at_ := (s.withD D).at_ + 1 } = (exec K hi h x { s with at_ := s.at_ + 1 }).withD D := he
          rw [he']
          cases hr : exec K hi h x { s with at_ := s.at_ + 1 } with
          | on s' =>
            rw [hr] at g1 g2
            have := run_pure K hi h l hl D n { s' with steps := s'.steps + 1 } g1
            exact ⟨this.1, this.2.trans g2⟩
          | done v s' => rw [hr] at g2; exact ⟨rfl, g2⟩
          | flt w s' => rw [hr] at g2; exact ⟨rfl, g2⟩
theorem start_noref (h : Int) (ctx : List Int) (ds : List Dt) : NoRef (start h ctx ds) := by
  have : ∀ i, isRef ((List.replicate 8 Cell.no).getD i .no) = false := by
    intro i
    rw [List.getD_eq_getElem?_getD, List.getElem?_replicate]
    split <;> rfl
  exact ⟨this, this⟩
end Go.Proofs.Ythngbakbiocadaa.V

/-
  The law's Filled: what is too much, or can't be; the loop that makes specs and the document's maps.
-/
namespace Go.Proofs.Ythngbakbiocadaa
set_option maxRecDepth 100000
open Go.ChangeShapes Go.WideShapes Go.ChangeAt Go.RowKit Go.Maps

theorem run_oneSp (f : Fl) (w : World) : (Instr.buildSlice 67 1 #[(0, .agg (spL (spOf f)).toArray)]).run Try.prog w = .ok (.slice (some ⟨w.heap.size, 0, none⟩) 1 1) (w.alloc (.cells (spL (spOf f)).toArray 69)) := by
  unfold spL
  go_simp
theorem wpList_oneSp {ops : Array Oper} {rest : List Oper} {op : Oper} {a : Act} {Q : Exit → Act → World → Prop} {w : World} {f : Fl} (hgd : op.guard = none) (y : Operand) (ho : op.op = .buildSlice 67 1 #[(0, y)]) (hy : a.eval y = .agg (spL (spOf f)).toArray)
    (h : wpList Try.prog ops Q rest (a.put op.dst (.slice (some ⟨w.heap.size, 0, none⟩) 1 1)) (w.alloc (.cells (spL (spOf f)).toArray 69))) : wpList Try.prog ops Q (op :: rest) a w :=
  wpList_plain hgd fun _ hK => by
    have hr : (execOp a.eval op).run Try.prog w = .ok (.value (.slice (some ⟨w.heap.size, 0, none⟩) 1 1)) (w.alloc (.cells (spL (spOf f)).toArray 69)) := by
      unfold execOp
      simp only [ho, List.map_toArray, List.map_cons, List.map_nil, hy, Sem.run_bind, run_oneSp, Result.andThen_ok, Sem.run_pure]
    unfold Oper.wp
    rw [hr]
    exact hK _ _ h
/-- a struct of one's own beside a row that grows -/
theorem RowAt.other {w w' : World} {b base : Nat} {f : Fl} {E : Option Addr} {m c : Nat} {v : Value} {n : Nat} {xs : List Value} (h : RowAt w b (flL f E m c)) (ho : w.ownsRow base 69 2 v n xs) (hg : w.grownBy w' v.ownBlock) (hb : v.ownBlock ≠ some b) : RowAt w' b (flL f E m c) :=
  RowAt.of_block h (hg.block b (RowAt.lt (v := .int .i64 f.kind) (vs := [.int .i64 f.room, .slice E m c]) h) (fun e => hb e.symm))
theorem info_sp : (Try.prog.info? 69).map (fun i => (i.zero, i.size, i.bytes)) = some (some (.agg #[.int .i64 0, .int .i64 0]), 2, 16) := by kernel_rfl
def FilledGive (w : World) (n : Nat) (fs : List Fl) (e : Ending) (w' : World) : Prop :=
  if n ≤ 4 ∧ fs.all goodFl = true then ∃ v u bs cs ba bb U, e = .returned (.tuple #[v, u, .bool true]) ∧ PrAt w.heap.size ba bb v u bs cs U (dsF fs) (dsF fs) w' ∧ Below w.heap.size w w' ∧ w.heap.size ≤ ba
  else e = .returned (.tuple #[.slice none 0 0, .slice none 0 0, .bool false]) ∧ Below w.heap.size w w'
theorem filled_no {w w' : World} {n : Nat} {fs : List Fl} (h : ¬ (n ≤ 4 ∧ fs.all goodFl = true)) (hb : Below w.heap.size w w') : FilledGive w n fs (.returned (.tuple #[.slice none 0 0, .slice none 0 0, .bool false])) w' := by
  unfold FilledGive; rw [if_neg h]; exact ⟨rfl, hb⟩
theorem fl_no {fs : List Fl} {k : Nat} {f : Fl} (h : fs[k]? = some f) (hx : goodFl f = false) : fs.all goodFl = false := by
  rw [List.all_eq_false]
  exact ⟨f, List.mem_of_getElem? h, by rw [hx]; decide⟩
theorem st_ptr {s : Side} {base : Nat} {v : Value} {bs : List Nat} {S : Nat → Prop} {ds : List Dt} {W : World} {i : Nat} {d : Dt} (h : StAt s base v bs S ds W) (hd : ds[i]? = some d) : ∃ g c, v = .slice (some ⟨g, 0, none⟩) ds.length c ∧ W.cell? ⟨g, i, none⟩ = some (.pointer (some ⟨bs.getD i 0, 0, none⟩)) := by
  obtain ⟨sv, g, c, e1, _, e3, _⟩ := h.turn hd
  exact ⟨g, c, e1, e3⟩
theorem fm_pair {w W W2 : World} {fs : List Fl} {n : Nat} {sv u v : Value} {cs bs : List Nat} {rs ms : List Mp} (h : FmS w w.heap.size fs n n sv u cs rs [] W) (hl : fs.length = n) (hm : MkS W W.heap.size (fs.map spOf) n v bs ms W2) :
    ∃ U, PrAt w.heap.size W.heap.size w.heap.size v u bs cs U (dK fs 0 0) (dK fs 0 0) W2 ∧ Below w.heap.size w W2 := by
  rw [dK_start]
  have hR := (h.set hl).step hm.bel
  have hM : StM sP W.heap.size v bs ms (fs.map dt0) W2 := by
    refine ⟨hm.all.sub (fun k hk => Or.inr hk), by rw [List.length_map, hl]; exact hm.own, by rw [List.length_map, hl]; exact hm.len, fun i d hd => ?_⟩
    rw [List.getElem?_map] at hd
    cases hf : fs[i]? with
    | none => rw [hf] at hd; cases hd
    | some f =>
      rw [hf] at hd
      injection hd with hd
      subst hd
      have hi : i < n := by rw [← hl]; exact (List.getElem?_eq_some_iff.1 hf).1
      obtain ⟨_, g2⟩ := hm.is i (spOf f) hi (by rw [List.getElem?_map, hf]; rfl)
      exact ⟨.slice none 0 0, g2⟩
  have hlow : ∀ k, stFoot u rs k → k < W.heap.size := fun k hk => (h.set hl).lt hk
  refine ⟨fun k => stFoot v ms k ∨ stFoot u rs k, ⟨stFoot v ms, stFoot u rs, ⟨ms, hM, fun k hk => hk, fun k hk => hM.lt hk⟩, hR, fun k hk ht => ?_, fun k hk => Or.inl hk, fun k hk => Or.inr hk, fun k hk => ?_, hm.bel.size, Nat.le_trans h.hi hm.bel.size⟩, h.bel.trans (hm.bel.mono h.bel.size)⟩
  · have := (hM.lt hk).1
    have := hlow k ht
    omega
  · rcases hk with hk | hk
    · have h1 := hM.lt hk
      have := h.hi
      exact ⟨by omega, h1.2⟩
    · exact ⟨hR.ge hk, hR.lt hk⟩
theorem all_sp {fs : List Fl} (h : fs.all goodFl = true) : (fs.map spOf).all goodSp = true := by
  rw [List.all_eq_true] at h ⊢
  intro x hx
  obtain ⟨f, hf, rfl⟩ := List.mem_map.1 hx
  have := h f hf
  unfold goodFl at this
  simp at this
  exact this.1
set_option maxHeartbeats 4000000 in
theorem filled_loop1 (A : Option Addr) (n c : Nat) (fs : List Fl) (w : World) (h : FlsAt w A n fs) (hn : n ≤ 4) :
    Calls Try.prog 7 #[.slice A n c] w (FilledGive w n fs) := by
  have H0 := Lib.hid h
  have HL := Lib.hid h.len
  have S0 := Lib.hid (FmS.start w fs)
  obtain ⟨i0, hi0, hz0, hs0, hb0⟩ := info_parts info_r
  have HI0 := Lib.hid hi0
  have HZ0 := Lib.hid hz0
  have HS0 := Lib.hid hs0
  have HB0 := Lib.hid hb0
  obtain ⟨i1, hi1, hz1, hs1, hb1⟩ := info_parts info_sp
  have HI1 := Lib.hid hi1
  have HZ1 := Lib.hid hz1
  have HS1 := Lib.hid hs1
  have HB1 := Lib.hid hb1
  have HNW17 := Lib.hid (fun x w h => rnew_spec x w h)
  have HNB17 := Lib.hid (fun x w h => rnew_bad x w h)
  have h4i : ¬ ((4 : Int) < (n : Int)) := by omega
  clear h hi0 hz0 hs0 hb0 hi1 hz1 hs1 hb1
  go_enter Try.func7, Try.ntmps7
  go_wp2
  go_loopw [5, 6, 21] (fun s u i wr => ∃ (k : Nat) (A' B' : Option Addr) (c' d' : Nat) (cs : List Nat) (rs : List Mp), k ≤ n ∧ i = .int .i64 (k : Int) ∧ s = .slice A' k c' ∧ u = .slice B' k d' ∧ Hid (FmS w w.heap.size fs k k (.slice A' k c') (.slice B' k d') cs rs [] wr)) (fun _ _ i _ => n - (intOf i).toNat)
  case atStart => exact ⟨0, none, none, 0, 0, [], [], Nat.zero_le _, rfl, rfl, rfl, S0⟩
  case round =>
    clear S0
    obtain ⟨k, A', B', c', d', cs, rs, hk, rfl, rfl, rfl, S⟩ := hrel
    rename World => wo
    by_cases hlt : k < n
    · obtain ⟨b, off, f, E, m, cc, hA, hb, hx, hc, hm1, hm2, hes⟩ := (H0.out.step S.out.bel).get k hlt
      subst hA
      have HC := Lib.hid hc
      have HX := Lib.hid hx
      have HEL := Lib.hid hes.len
      have HOB : Hid ((Value.slice A' k c').ownBlock ≠ some wo.heap.size) := Lib.hid (fun e => by have := (S.out.sp.lt _ e).2; omega)
      have hk0 : (0 : Int) ≤ (k : Int) := by omega
      have hk1 : (k : Int) < (n : Int) := by omega
      clear hx hc hb hes hm1 hm2
      cases hg : goodSp (spOf f) with
      | true =>
        have HG := Lib.hid hg
        clear hg
        by_cases h40 : m ≤ 40
        · have HGF : Hid (goodFl f = true) := Lib.hid (by unfold goodFl; rw [HG.out, HEL.out]; simp [h40])
          have h40i : ¬ ((40 : Int) < (m : Int)) := by omega
          go_wp2_with (first
            | ((with_reducible refine wpList_load_at flT HC.out rfl rfl (.tmp 23) rfl ?_ ?_); (exact rfl))
            | ((with_reducible refine wpList_store_newrow flT (vs := flL f E m cc) rfl (flL_one _ _ _ _) rfl (.tmp 8) (.tmp 24) rfl rfl ?_ ?_ ?_); (exact rfl); (exact rfl); intro W4 hP hb hz; have P := Lib.hid hP; have hkc := hP.cell 0 _ rfl; have hrc := hP.cell 1 _ rfl; replace S := Lib.hid (S.out.call hb); clear hP hb hz; generalize wo.heap.size = G at P hkc hrc HOB ⊢)
            | ((with_reducible refine wpList_oneSp (f := f) rfl (.tmp 30) rfl ?_ ?_); (exact rfl); have HNW := Lib.hid (cell_new W4 (spL (spOf f)) 69); have HBel : Hid (Below W4.heap.size W4 (W4.alloc (.cells (spL (spOf f)).toArray 69))) := Lib.hid ((Below.refl _ _).alloc (Nat.le_refl _) _); replace S := Lib.hid (S.out.call HBel.out); replace P := Lib.hid (P.out.step HBel.out); have HSZ : Hid (w.heap.size ≤ (W4.alloc (.cells (spL (spOf f)).toArray 69)).heap.size) := Lib.hid S.out.hi; have HOwn := Lib.hid S.out.sp; clear HBel hkc hrc; generalize W4.heap.size = E4 at HNW ⊢; generalize W4.alloc (.cells (spL (spOf f)).toArray 69) = W5 at HNW S P HSZ HOwn ⊢)
            | (at_builtin; (refine wpList_append_own_at _ rfl (.tmp 25) (.tmp 31) 67 rfl w.heap.size 69 i1 _ 2 16 Try.underlying67 HI1.out HZ1.out HS1.out HB1.out rfl (by omega) _ k _ rfl HOwn.out ⟨E4, 0, none⟩ 1 1 (spL (spOf f)) rfl rfl HNW.out (spL_one _) (by unfold maxLen; omega) (by omega) HSZ.out ?_); intro v6 w6 hown6 hgrow hnil hloc; obtain ⟨A6, c6, rfl⟩ := owns_slice hown6; replace S := Lib.hid (S.out.spec HX.out hgrow hloc hown6); replace P := Lib.hid (P.out.other HOwn.out hgrow (HOB.out)); have hkc := P.out.cell 0 _ rfl; have hrc := P.out.cell 1 _ rfl; have hsc := P.out.cell 2 _ rfl; clear hown6 hgrow hnil hloc HOwn HSZ)
            | (go_at_call 23; refine (HNW17.out (spOf f) _ HG.out).mono ?_; intro e w7 hm; replace P := Lib.hid (P.out.step hm.2.2); have S7 := Lib.hid (S.out.made hm); obtain ⟨rfl, _, _⟩ := hm; clear hkc hrc hsc S; have hsc := P.out.cell 2 _ rfl; generalize w6.heap.size = B7 at S7 ⊢; have HNp := Lib.hid (cell_one_new w7 (.pointer (some ⟨B7, 0, none⟩)) 56); have S8 := Lib.hid (S7.out.call ((Below.refl _ _).alloc (Nat.le_refl _) (.cells #[.pointer (some ⟨B7, 0, none⟩)] 56))); have HSZ8 : Hid (w.heap.size ≤ (w7.alloc (.cells #[.pointer (some ⟨B7, 0, none⟩)] 56)).heap.size) := Lib.hid S8.out.hi)
            | (at_builtin; go_must (refine wpList_append_own_at _ rfl (.tmp 46) (.tmp 48) 30 rfl w.heap.size 56 i0 _ 1 8 Try.underlying30 HI0.out HZ0.out HS0.out HB0.out rfl (by omega) _ k _ rfl S8.out.rt ⟨w7.heap.size, 0, none⟩ 1 1 [.pointer (some ⟨B7, 0, none⟩)] rfl rfl HNp.out (by intro u hu; simp at hu; subst hu; rfl) (by unfold maxLen; omega) (by omega) HSZ8.out ?_); intro v9 w9 hown9 hgrow hnil hloc; obtain ⟨A9, c9, rfl⟩ := owns_slice hown9; have S9 := Lib.hid (S8.out.done HX.out HGF.out hgrow hloc hown9); clear hown9 hgrow hnil hloc S7 S8))
          go_roundw
          case rel => exact ⟨k + 1, A6, A9, c6, c9, _, _, by omega, by go_num, rfl, rfl, S9⟩
          case measure => (simp [intOf] <;> omega)
        · have hbad : goodFl f = false := by unfold goodFl; rw [HEL.out]; simp [h40]
          have HF := Lib.hid (fun w' => filled_no (w := w) (w' := w') (n := n) (fs := fs) (fun hh => by have := fl_no HX.out hbad; rw [hh.2] at this; cases this))
          have h40i : (40 : Int) < (m : Int) := by omega
          clear hbad
          go_wp2_with (first
            | ((with_reducible refine wpList_load_at flT HC.out rfl rfl (.tmp 23) rfl ?_ ?_); (exact rfl))
            | ((with_reducible refine wpList_store_newrow flT (vs := flL f E m cc) rfl (flL_one _ _ _ _) rfl (.tmp 8) (.tmp 24) rfl rfl ?_ ?_ ?_); (exact rfl); (exact rfl); intro W4 hP hb hz; have P := Lib.hid hP; have hkc := hP.cell 0 _ rfl; have hrc := hP.cell 1 _ rfl; replace S := Lib.hid (S.out.call hb); clear hP hb hz; generalize wo.heap.size = G at P hkc hrc HOB ⊢)
            | ((with_reducible refine wpList_oneSp (f := f) rfl (.tmp 30) rfl ?_ ?_); (exact rfl); have HNW := Lib.hid (cell_new W4 (spL (spOf f)) 69); have HBel : Hid (Below W4.heap.size W4 (W4.alloc (.cells (spL (spOf f)).toArray 69))) := Lib.hid ((Below.refl _ _).alloc (Nat.le_refl _) _); replace S := Lib.hid (S.out.call HBel.out); replace P := Lib.hid (P.out.step HBel.out); have HSZ : Hid (w.heap.size ≤ (W4.alloc (.cells (spL (spOf f)).toArray 69)).heap.size) := Lib.hid S.out.hi; have HOwn := Lib.hid S.out.sp; clear HBel hkc hrc; generalize W4.heap.size = E4 at HNW ⊢; generalize W4.alloc (.cells (spL (spOf f)).toArray 69) = W5 at HNW S P HSZ HOwn ⊢)
            | (at_builtin; (refine wpList_append_own_at _ rfl (.tmp 25) (.tmp 31) 67 rfl w.heap.size 69 i1 _ 2 16 Try.underlying67 HI1.out HZ1.out HS1.out HB1.out rfl (by omega) _ k _ rfl HOwn.out ⟨E4, 0, none⟩ 1 1 (spL (spOf f)) rfl rfl HNW.out (spL_one _) (by unfold maxLen; omega) (by omega) HSZ.out ?_); intro v6 w6 hown6 hgrow hnil hloc; obtain ⟨A6, c6, rfl⟩ := owns_slice hown6; replace S := Lib.hid (S.out.spec HX.out hgrow hloc hown6); replace P := Lib.hid (P.out.other HOwn.out hgrow (HOB.out)); have hkc := P.out.cell 0 _ rfl; have hrc := P.out.cell 1 _ rfl; have hsc := P.out.cell 2 _ rfl; clear hown6 hgrow hnil hloc HOwn HSZ)
            | (go_at_call 23; refine (HNW17.out (spOf f) _ HG.out).mono ?_; intro e w7 hm; replace P := Lib.hid (P.out.step hm.2.2); have S7 := Lib.hid (S.out.made hm); obtain ⟨rfl, _, _⟩ := hm; clear hkc hrc hsc S; have hsc := P.out.cell 2 _ rfl; generalize w6.heap.size = B7 at S7 ⊢; have HNp := Lib.hid (cell_one_new w7 (.pointer (some ⟨B7, 0, none⟩)) 56); have S8 := Lib.hid (S7.out.call ((Below.refl _ _).alloc (Nat.le_refl _) (.cells #[.pointer (some ⟨B7, 0, none⟩)] 56))); have HSZ8 : Hid (w.heap.size ≤ (w7.alloc (.cells #[.pointer (some ⟨B7, 0, none⟩)] 56)).heap.size) := Lib.hid S8.out.hi))
          go_ret3
          exact HF.out _ S7.out.bel
      | false =>
        have HG := Lib.hid hg
        have hbad : goodFl f = false := by unfold goodFl; rw [hg]; rfl
        have HF := Lib.hid (fun w' => filled_no (w := w) (w' := w') (n := n) (fs := fs) (fun hh => by have := fl_no HX.out hbad; rw [hh.2] at this; cases this))
        clear hg hbad
        go_wp2_with (first
          | ((with_reducible refine wpList_load_at flT HC.out rfl rfl (.tmp 23) rfl ?_ ?_); (exact rfl))
          | ((with_reducible refine wpList_store_newrow flT (vs := flL f E m cc) rfl (flL_one _ _ _ _) rfl (.tmp 8) (.tmp 24) rfl rfl ?_ ?_ ?_); (exact rfl); (exact rfl); intro W4 hP hb hz; have P := Lib.hid hP; have hkc := hP.cell 0 _ rfl; have hrc := hP.cell 1 _ rfl; replace S := Lib.hid (S.out.call hb); clear hP hb hz; generalize wo.heap.size = G at P hkc hrc HOB ⊢)
          | ((with_reducible refine wpList_oneSp (f := f) rfl (.tmp 30) rfl ?_ ?_); (exact rfl); have HNW := Lib.hid (cell_new W4 (spL (spOf f)) 69); have HBel : Hid (Below W4.heap.size W4 (W4.alloc (.cells (spL (spOf f)).toArray 69))) := Lib.hid ((Below.refl _ _).alloc (Nat.le_refl _) _); replace S := Lib.hid (S.out.call HBel.out); replace P := Lib.hid (P.out.step HBel.out); have HSZ : Hid (w.heap.size ≤ (W4.alloc (.cells (spL (spOf f)).toArray 69)).heap.size) := Lib.hid S.out.hi; have HOwn := Lib.hid S.out.sp; clear HBel hkc hrc; generalize W4.heap.size = E4 at HNW ⊢; generalize W4.alloc (.cells (spL (spOf f)).toArray 69) = W5 at HNW S P HSZ HOwn ⊢)
          | (at_builtin; (refine wpList_append_own_at _ rfl (.tmp 25) (.tmp 31) 67 rfl w.heap.size 69 i1 _ 2 16 Try.underlying67 HI1.out HZ1.out HS1.out HB1.out rfl (by omega) _ k _ rfl HOwn.out ⟨E4, 0, none⟩ 1 1 (spL (spOf f)) rfl rfl HNW.out (spL_one _) (by unfold maxLen; omega) (by omega) HSZ.out ?_); intro v6 w6 hown6 hgrow hnil hloc; obtain ⟨A6, c6, rfl⟩ := owns_slice hown6; replace S := Lib.hid (S.out.spec HX.out hgrow hloc hown6); replace P := Lib.hid (P.out.other HOwn.out hgrow (HOB.out)); have hkc := P.out.cell 0 _ rfl; have hrc := P.out.cell 1 _ rfl; have hsc := P.out.cell 2 _ rfl; clear hown6 hgrow hnil hloc HOwn HSZ)
          | (go_at_call 23; refine (HNB17.out (spOf f) _ HG.out).mono ?_; rintro e w7 ⟨rfl, hb⟩; replace P := Lib.hid (P.out.step hb); have S7 := Lib.hid (S.out.call hb); clear hb hkc hrc hsc S; have hsc := P.out.cell 2 _ rfl))
        go_ret3
        exact HF.out _ S7.out.bel
    · obtain rfl : n = k := by omega
      have hgood := S.out.good HL.out
      have HMK := Lib.hid (make_any A' n c' wo.heap.size (fs.map spOf) wo (own_specs (by have := S.out.sp; rw [List.take_of_length_le (by rw [HL.out]; exact Nat.le_refl _)] at this; exact this) HL.out.symm) rfl)
      have HGA := Lib.hid hgood
      have HBA0 : Hid (w.heap.size ≤ wo.heap.size) := Lib.hid S.out.hi
      have H4 := Lib.hid hn
      clear hlt hk HI0 HZ0 HS0 HB0 HI1 HZ1 HS1 HB1 HNW17 HNB17 hgood
      go_wp2_with (go_at_call 24; refine HMK.out.mono ?_; intro e w2 hg; unfold MakeGive at hg; rw [if_pos ⟨H4.out, all_sp HGA.out⟩] at hg; obtain ⟨v, bs, ms, rfl, hmk⟩ := hg; obtain ⟨U, hpr, hbw⟩ := fm_pair S.out HL.out hmk; have P := Lib.hid hpr; have B := Lib.hid hbw; clear hmk hpr hbw S HMK)
      have HBA : Hid (w.heap.size ≤ w2.heap.size) := Lib.hid B.out.size
      generalize wo.heap.size = ba at P HBA0
      clear H4
      go_loopw [60] (fun i wr => ∃ (q : Nat) (U : Nat → Prop), q ≤ n ∧ i = .int .i64 (q : Int) ∧ Hid (PrAt w.heap.size ba w.heap.size v (.slice B' n d') bs cs U (dK fs q 0) (dK fs q 0) wr) ∧ Hid (Below w.heap.size w wr)) (fun i _ => n - (intOf i).toNat)
      case atStart => exact ⟨0, U, Nat.zero_le _, rfl, P, B⟩
      case round =>
        clear P B HBA
        obtain ⟨q, U, hq, rfl, P, B⟩ := hrel
        rename World => w3
        by_cases hql : q < n
        · obtain ⟨b, off, f, E, m, cc, hA, hb, hx, hc0, hm1, hm2, hes⟩ := H0.out.get q hql
          subst hA
          have HC : Hid (w3.rangeAt b (off + q * 3) (flL f E m cc)) := Lib.hid (fun j v hv => (B.out.cell (p := ⟨b, _, none⟩) hb).trans (hc0 j v hv))
          have HX := Lib.hid hx
          have HES := Lib.hid hes
          have HEL := Lib.hid hes.len
          have HM4 : Hid (m ≤ 40) := Lib.hid (by have h1 := List.all_eq_true.1 HGA.out f (List.mem_of_getElem? hx); unfold goodFl at h1; simp at h1; have := hes.len; omega)
          have HFG : Hid (goodFl f = true) := Lib.hid (List.all_eq_true.1 HGA.out f (List.mem_of_getElem? hx))
          have HGU : Hid (¬ U w3.heap.size) := Lib.hid (fun e => by have := (P.out.lt e).2; omega)
          have hq0 : (0 : Int) ≤ (q : Int) := by omega
          have hq1 : (q : Int) < (n : Int) := by omega
          clear hx hc0 hb hes hm1 hm2
          go_wp2_with (first
            | ((with_reducible refine wpList_load_at flT HC.out rfl rfl (.tmp 63) rfl ?_ ?_); (exact rfl))
            | ((with_reducible refine wpList_store_newrow flT (vs := flL f E m cc) rfl (flL_one _ _ _ _) rfl (.tmp 13) (.tmp 64) rfl rfl ?_ ?_ ?_); (exact rfl); (exact rfl); intro W4 hP hb hz; have R := Lib.hid hP; have hsc := hP.cell 2 _ rfl; replace P := Lib.hid (P.out.step hb); replace B := Lib.hid (B.out.trans (hb.mono B.out.size)); clear hP hb hz; generalize w3.heap.size = G0 at R hsc HGU ⊢))
          clear R hsc HGU
          go_loopw [68] (fun j wr => ∃ (r : Nat) (U : Nat → Prop), r ≤ m ∧ j = .int .i64 (r : Int) ∧ Hid (PrAt w.heap.size ba w.heap.size v (.slice B' n d') bs cs U (dK fs q r) (dK fs q r) wr) ∧ Hid (Below w.heap.size w wr)) (fun j _ => m - (intOf j).toNat)
          case atStart => exact ⟨0, U, Nat.zero_le _, rfl, P, B⟩
          case round =>
            clear P B
            obtain ⟨r, U, hr, rfl, P, B⟩ := hrel
            rename World => w4
            by_cases hrl : r < m
            · obtain ⟨b2, off2, x, hE, hb2, hx2, hc2⟩ := (HES.out.step B.out).get r hrl
              subst hE
              have HC2 := Lib.hid hc2
              have HX2 := Lib.hid hx2
              have HD := Lib.hid (dK_at fs q r f HX.out)
              have HN := Lib.hid (dK_put fs q r f x HX.out HX2.out)
              have HDN := Lib.hid (dK_len fs q r)
              have HGU : Hid (¬ U w4.heap.size) := Lib.hid (fun e => by have := (P.out.lt e).2; omega)
              have hr0 : (0 : Int) ≤ (r : Int) := by omega
              have hr1 : (r : Int) < (m : Int) := by omega
              have hm40 := HM4.out
              clear hx2 hc2 hb2
              go_wp2_with (first
                | ((with_reducible refine wpList_load_at enT HC2.out (enL_length _) rfl (.tmp 70) rfl ?_ ?_); (exact rfl))
                | ((with_reducible refine wpList_store_newrow enT (vs := enL x) (enL_length _) (enL_one _) rfl (.tmp 15) (.tmp 71) rfl rfl ?_ ?_ ?_); (exact rfl); (exact rfl); intro W5 hP hb hz; have R := Lib.hid hP.drew; replace P := Lib.hid (P.out.step (hb.trans (Below.refl _ _).drew)); replace B := Lib.hid (B.out.trans ((hb.trans (Below.refl _ _).drew).mono B.out.size)); have HGL : Hid (w4.heap.size < W5.drew.heap.size) := Lib.hid (by have h1 : W5.drew.heap.size = W5.heap.size := rfl; omega); clear hP hb hz; generalize w4.heap.size = G at R HGU HGL ⊢))
              have hkc := R.out.cell 0 _ rfl
              have HAT := Lib.hid (P.out.readP (fun S hS => st_at hS HD.out))
              have HPUT := Lib.hid (PrAt.opP (E := fun e _ => e = .returned (.int .i64 ((dtP f r).code x))) B.out.size P.out (fun S hS hb => st_put hS HD.out (dtP_ok HFG.out r) hb x))
              rw [HN.out] at HPUT
              refine ws_region 7 (by kernel_rfl) ?_
              simp only [List.take_succ_cons, List.take_zero, List.drop_succ_cons, List.drop_zero]
              refine ws_take (v) (by kernel_rfl) ?_ ?_
              · (go_simp)
              (try simp only [Act.put, List.setIfInBounds_toArray, List.set_cons_zero, List.set_cons_succ])
              refine ws_take (.int .i64 (q : Int)) (by kernel_rfl) ?_ ?_
              · (go_simp)
              (try simp only [Act.put, List.setIfInBounds_toArray, List.set_cons_zero, List.set_cons_succ])
              refine ws_call 17 #[v, .int .i64 (q : Int)] (.pointer (some ⟨bs.getD q 0, 0, none⟩)) (by kernel_rfl) (by go_simp <;> rfl) (HAT.out) ?_
              (try simp only [Act.put, List.setIfInBounds_toArray, List.set_cons_zero, List.set_cons_succ])
              refine ws_take (.pointer (some ⟨G, 0, none⟩)) (by kernel_rfl) ?_ ?_
              · (go_simp)
              (try simp only [Act.put, List.setIfInBounds_toArray, List.set_cons_zero, List.set_cons_succ])
              refine ws_take (.int .i64 x.key) (by kernel_rfl) ?_ ?_
              · (go_simp)
              (try simp only [Act.put, List.setIfInBounds_toArray, List.set_cons_zero, List.set_cons_succ])
              refine ws_take (.pointer (some ⟨G, 1, none⟩)) (by kernel_rfl) ?_ ?_
              · (go_simp)
              (try simp only [Act.put, List.setIfInBounds_toArray, List.set_cons_zero, List.set_cons_succ])
              refine ws_at valT (wordsL_length x) (.tmp 77) rfl rfl (by kernel_rfl) (RowAt.words R.out) ?_
              (try simp only [Act.put, List.setIfInBounds_toArray, List.set_cons_zero, List.set_cons_succ])
              refine ws_nil ?_
              clear hkc HAT
              go_wp2_with (go_at_call 25; refine HPUT.out.mono ?_; rintro e w6 ⟨rfl, U6, hp6, hb6, hU6⟩; have R6 := Lib.hid (RowAt.drew (RowAt.but (v := .int .i64 x.key) (vs := [.int .i64 x.a, .int .i64 x.b, .int .i64 x.c, .int .i64 x.d]) R.out hb6 HGU.out)); have P6 := Lib.hid (hp6.step (Below.refl _ _).drew); have B6 := Lib.hid (B.out.trans ((hb6.below B.out.size (fun k hk => (P.out.lt hk).1)).trans (Below.refl _ _).drew)); have HGU6 : Hid (¬ U6 G) := Lib.hid (fun hh => by rcases hU6 _ hh with h1 | h1; exact HGU.out h1; have := HGL.out; omega); clear hp6 hb6 hU6 P B R HGU HPUT)
              have hkc := R6.out.cell 0 _ rfl
              obtain ⟨gu, cu, he, hcu⟩ := P6.out.readR (fun T hT => st_ptr hT HD.out)
              injection he with he1 he2 he3
              subst he1 he3
              clear he2
              have HRPUT := Lib.hid (PrAt.opR (E := fun e _ => e = .returned (.int .i64 ((dtP f r).code x))) B6.out.size P6.out (fun S hS hb => st_rput hS HD.out (dtP_ok HFG.out r) hb x))
              rw [HN.out] at HRPUT
              refine ws_region 8 (by kernel_rfl) ?_
              simp only [List.take_succ_cons, List.take_zero, List.drop_succ_cons, List.drop_zero]
              refine ws_take (.slice (some ⟨gu, 0, none⟩) n d') (by kernel_rfl) ?_ ?_
              · (go_simp)
              (try simp only [Act.put, List.setIfInBounds_toArray, List.set_cons_zero, List.set_cons_succ])
              refine ws_take (.int .i64 (q : Int)) (by kernel_rfl) ?_ ?_
              · (go_simp)
              (try simp only [Act.put, List.setIfInBounds_toArray, List.set_cons_zero, List.set_cons_succ])
              refine ws_take (.pointer (some ⟨gu, q, none⟩)) (by kernel_rfl) ?_ ?_
              · (go_simp)
              (try simp only [Act.put, List.setIfInBounds_toArray, List.set_cons_zero, List.set_cons_succ])
              refine ws_take (.pointer (some ⟨cs.getD q 0, 0, none⟩)) (by kernel_rfl) ?_ ?_
              · (go_simp)
              (try simp only [Act.put, List.setIfInBounds_toArray, List.set_cons_zero, List.set_cons_succ])
              refine ws_take (.pointer (some ⟨G, 0, none⟩)) (by kernel_rfl) ?_ ?_
              · (go_simp)
              (try simp only [Act.put, List.setIfInBounds_toArray, List.set_cons_zero, List.set_cons_succ])
              refine ws_take (.int .i64 x.key) (by kernel_rfl) ?_ ?_
              · (go_simp)
              (try simp only [Act.put, List.setIfInBounds_toArray, List.set_cons_zero, List.set_cons_succ])
              refine ws_take (.pointer (some ⟨G, 1, none⟩)) (by kernel_rfl) ?_ ?_
              · (go_simp)
              (try simp only [Act.put, List.setIfInBounds_toArray, List.set_cons_zero, List.set_cons_succ])
              refine ws_at valT (wordsL_length x) (.tmp 86) rfl rfl (by kernel_rfl) (RowAt.words R6.out) ?_
              (try simp only [Act.put, List.setIfInBounds_toArray, List.set_cons_zero, List.set_cons_succ])
              refine ws_nil ?_
              clear hkc hcu
              go_wp2_with (go_at_call 26; refine HRPUT.out.mono ?_; rintro e w7 ⟨rfl, U7, hp7, hb7, hU7⟩; have P7 := Lib.hid hp7; have B7 := Lib.hid (B6.out.trans (hb7.below B6.out.size (fun k hk => (P6.out.lt hk).1))); clear hp7 hb7 hU7 P6 B6 R6 HGU6 HRPUT)
              go_roundw
              case rel => exact ⟨r + 1, U7, by omega, by go_num, P7, B7⟩
              case measure => (simp [intOf] <;> omega)
            · obtain rfl : m = r := by omega
              have HNX := Lib.hid (dK_next fs q f HX.out)
              rw [HEL.out] at HNX
              rw [HNX.out] at P
              clear hrl
              go_wp2
              go_roundw
              case rel => exact ⟨q + 1, U, by omega, by go_num, P, B⟩
              case measure => (simp [intOf] <;> omega)
        · obtain rfl : n = q := by omega
          have HDE := Lib.hid (dK_end fs n HL.out)
          rw [HDE.out] at P
          have HF : Hid (FilledGive w n fs (.returned (.tuple #[v, .slice B' n d', .bool true])) w3) := Lib.hid (by unfold FilledGive; rw [if_pos ⟨hn, HGA.out⟩]; exact ⟨v, _, bs, cs, ba, _, U, rfl, P.out, B.out, HBA0.out⟩)
          clear hql
          go_wp2
          go_ret3
          exact HF.out
end Go.Proofs.Ythngbakbiocadaa

/-
  The law's Filled, all of it; its Ctx; the document's comparison of numbers.
-/
namespace Go.Proofs.Ythngbakbiocadaa
set_option maxRecDepth 100000
open Go.ChangeShapes Go.WideShapes Go.ChangeAt Go.RowKit Go.Maps

set_option maxHeartbeats 1000000 in
theorem filled_any (A : Option Addr) (n c : Nat) (fs : List Fl) (w : World) (h : FlsAt w A n fs) : Calls Try.prog 7 #[.slice A n c] w (FilledGive w n fs) := by
  by_cases hn : n ≤ 4
  · exact filled_loop1 A n c fs w h hn
  · have HF := Lib.hid (filled_no (w := w) (n := n) (fs := fs) (fun hh => hn hh.1) (Below.refl _ w))
    have h4 : (4 : Int) < (n : Int) := by omega
    clear hn h
    go_enter Try.func7, Try.ntmps7
    go_wp2
    go_ret3
    exact HF.out
/-! ### Ctx -/
def ctxF (h : Int) (ks : List Int) : List Int := ks.take (Hk.inF h).toNat ++ List.replicate ((Hk.inF h).toNat - ks.length) 0
theorem inF_range (h : Int) : 0 ≤ Hk.inF h ∧ Hk.inF h ≤ 10 := by unfold Hk.inF; repeat (first | (split; omega) | split | omega)
theorem info_int : (Try.prog.info? 3).map (fun i => (i.zero, i.size, i.bytes)) = some (some (.int .i64 0), 1, 8) := by kernel_rfl
theorem size_int : (Try.prog.info? 3).map (·.size) = some 1 := by kernel_rfl
theorem made_rep (v : Value) (n : Nat) : madeCells #[v] (n * 1) = (List.replicate n v).toArray := by
  unfold madeCells
  apply Array.ext
  · simp
  · intro i h1 h2
    simp at h1
    simp [Nat.mod_one]
theorem run_make_ints (w : World) (n : Nat) (hn : n ≤ 1000) : (Instr.makeSlice 22 (.int .i64 (n : Int)) (.int .i64 (n : Int))).run Try.prog w = .ok (.slice (some ⟨w.heap.size, 0, none⟩) n n) (w.alloc (.cells (List.replicate n (Value.int .i64 0)).toArray 3)) := by
  obtain ⟨i, hi, hz, hs, hb⟩ := info_parts info_int
  have := run_make (P := Try.prog) w 22 3 i (.int .i64 0) Try.underlying22 hi hz .i64 .i64 (n : Int) (n : Int) (by omega) (by omega) (by rw [hb]; omega) (by omega)
  rw [hs, Int.toNat_natCast] at this
  rw [← made_rep]
  exact this
theorem RowAt.over {w : World} {b : Nat} {vs : List Value} (h : RowAt w b vs) (cs : List Value) (hc : cs.length ≤ vs.length) : RowAt (w.setCells b 0 cs) b (cs ++ vs.drop cs.length) where
  range := fun j v hv => by
    rw [Nat.zero_add]
    by_cases hj : j < cs.length
    · rw [List.getElem?_append_left hj, List.getElem?_eq_getElem hj] at hv
      injection hv with hv
      have := World.cell?_setCells_in b cs 0 w (fun i hi => (h.free i (by omega)).1) j hj
      rw [Nat.zero_add] at this
      rw [this, hv]
    · rw [List.getElem?_append_right (by omega), List.getElem?_drop, show cs.length + (j - cs.length) = j by omega] at hv
      rw [World.cell?_setCells_out b cs 0 w ⟨b, j, none⟩ (fun _ _ => Or.inr (by show 0 + cs.length ≤ j; omega))]
      exact h.cell j v hv
  free := by
    rw [List.length_append, List.length_drop, show cs.length + (vs.length - cs.length) = vs.length by omega]
    exact World.there_setCells h.free _ _ _
def intV (ks : List Int) : List Value := ks.map (Value.int .i64)
theorem intV_one (ks : List Int) : ∀ v ∈ intV ks, v.oneCell' = true := by
  intro v hv
  obtain ⟨k, _, rfl⟩ := List.mem_map.1 hv
  rfl
theorem nums_row {w : World} {b : Nat} {ks : List Int} {n : Nat} (h : RowAt w b (intV ks)) (hb : b < w.heap.size) (hn : ks.length = n) : NumsAt w (some ⟨b, 0, none⟩) n ks := by
  refine ⟨hn, ⟨fun h0 => ⟨b, 0, rfl, hb, fun i r hr j v hv => ?_⟩⟩⟩
  rw [List.getElem?_map] at hr
  obtain ⟨k, hk, rfl⟩ := Option.map_eq_some_iff.1 hr
  have hj : j = 0 := by have := (List.getElem?_eq_some_iff.1 hv).1; simp at this; omega
  subst hj
  simp at hv
  subst hv
  rw [Nat.zero_add, Nat.mul_one, Nat.add_zero]
  exact h.cell i _ (by unfold intV; rw [List.getElem?_map, hk]; rfl)
/-- ints copied into a new row -/
theorem run_copy_nums {w : World} {g m A0 : Nat} {A : Option Addr} {n c : Nat} {ks : List Int} {vs : List Value} (hr : RowAt w g vs) (hv : vs.length = m) (hk : NumsAt w A n ks) :
    (Builtin.copy_ #[22, 22] 3 #[.slice (some ⟨g, 0, none⟩) m A0, .slice A n c]).run Try.prog w = .ok (goInt ((min n m : Nat) : Int)) (w.setCells g 0 (intV (ks.take m))) := by
  by_cases h0 : min n m = 0
  · have e : intV (ks.take m) = [] := by
      have hl := hk.len
      have : ks.take m = [] := by
        apply List.eq_nil_of_length_eq_zero
        rw [List.length_take]
        omega
      rw [this]; rfl
    rw [e, h0]
    exact run_copy_none w _ _ _ 3 _ _ _ _ _ _ Try.underlying22 size_int h0
  · obtain ⟨b, off, k0, hA, _, _, _⟩ := hk.get 0 (by omega)
    subst hA
    have hl : (intV (ks.take m)).length = min n m := by unfold intV; rw [List.length_map, List.length_take, hk.len]; omega
    have := run_copy_cells (P := Try.prog) w 22 22 3 3 g 0 m A0 ⟨b, off, none⟩ n c (intV (ks.take m)) Try.underlying22 size_int hl (fun j v hj => by
      have hjl : j < n := by have := (List.getElem?_eq_some_iff.1 hj).1; omega
      obtain ⟨b', off', k, e, _, hkj, hcell⟩ := hk.get j hjl
      injection e with e
      injection e with e1 e2
      subst e1 e2
      rw [Addr.add_mid, hcell]
      unfold intV at hj
      have hjm : j < m := by have := (List.getElem?_eq_some_iff.1 hj).1; rw [List.length_map, List.length_take] at this; omega
      rw [List.getElem?_map, List.getElem?_take_of_lt hjm, hkj] at hj
      exact hj) (fun j hj => by rw [Nat.zero_add]; have := (hr.free j (by omega)).1; rwa [Nat.zero_add] at this) (fun j hj => by rw [Nat.zero_add]; exact hr.frozen j (by omega)) (intV_one _)
    rw [hl] at this
    exact this
set_option maxHeartbeats 1000000 in
theorem ctx_any (h : Int) (A : Option Addr) (n c : Nat) (ks : List Int) (w : World) (hk : NumsAt w A n ks) (hn : n ≤ 1000) :
    Calls Try.prog 11 #[.int .i64 h, .slice A n c] w fun e w' => ∃ g, e = .returned (.slice (some ⟨g, 0, none⟩) (Hk.inF h).toNat (Hk.inF h).toNat) ∧ w.heap.size ≤ g ∧ NumsAt w' (some ⟨g, 0, none⟩) (Hk.inF h).toNat (ctxF h ks) ∧ Below w.heap.size w w' := by
  obtain ⟨N, hN⟩ : ∃ N : Nat, Hk.inF h = (N : Int) := ⟨(Hk.inF h).toNat, by have := inF_range h; omega⟩
  have hN10 : N ≤ 10 := by have := inF_range h; omega
  have HR := Lib.hid (fun w => rin_any h w)
  have HK := Lib.hid hk
  unfold ctxF
  rw [hN, Int.toNat_natCast]
  rw [hN] at HR
  clear hk hN
  go_enter Try.func11, Try.ntmps11
  go_wp2_with fail
  refine (HR.out _).mono ?_
  rintro e w2 ⟨rfl, hb⟩
  have hmk := run_make_ints w2 N (by omega)
  have hr := rowAt_new w2 (List.replicate N (Value.int .i64 0)) 3
  have hcp := run_copy_nums (A0 := N) (c := c) hr (List.length_replicate) ((HK.out.step hb).step ((Below.refl _ _).alloc (Nat.le_refl _) _))
  have RO := Lib.hid (hr.over (intV (ks.take N)) (by unfold intV; simp; omega))
  have B2 := Lib.hid (below_setCells w2.heap.size (Nat.le_refl _) (intV (ks.take N)) 0 _ ((Below.refl w2.heap.size w2).alloc (Nat.le_refl _) (.cells (List.replicate N (Value.int .i64 0)).toArray 3)))
  have B := Lib.hid hb
  clear hb hr
  have HRP := Lib.hid (rfl : List.replicate N (Value.int .i64 0) = List.replicate N (Value.int .i64 0))
  generalize (List.replicate N (Value.int .i64 0)).toArray = Z at hmk hcp RO B2
  obtain ⟨y, hy⟩ : ∃ y, intV (ks.take N) = y := ⟨_, rfl⟩
  have HY := Lib.hid hy
  rw [hy] at hcp RO B2
  clear hy
  go_wp2
  go_ret
  refine ⟨_, rfl, B.out.size, nums_row ?_ ?_ ?_, B.out.trans (B2.out.mono B.out.size)⟩
  · have h1 := RO.out
    rw [← HY.out] at h1 ⊢
    have e : intV (ks.take N) ++ (List.replicate N (Value.int .i64 0)).drop (intV (ks.take N)).length = intV (ks.take N ++ List.replicate (N - ks.length) 0) := by
      unfold intV
      rw [List.map_append, List.length_map, List.drop_replicate, List.map_replicate, List.length_take]
      congr 2
      omega
    rw [e] at h1
    exact h1
  · rw [heap_setCells]; simp
  · rw [List.length_append, List.length_take, List.length_replicate]; omega
/-! ### the document's Same of numbers -/
end Go.Proofs.Ythngbakbiocadaa
