/- Texts of the proof: Fkeep, Feq, Fawm, Fawake, Fargs, Fgreat. -/
import Derived.Test.YtncmihikpcdgoaaGreatMao
import Derived.Test.YtncmihikpcdgoaaGreatMac
namespace Go.Proofs.YtncmihikpcdgoaaGreat
open Go.RowKit Go.Maps
open Dk (zeros zeros_length)
open Hd (Head rightB pageH)
open Jn (Chg quietH liveH Cl Quiet LiveD May Same upd)
theorem upd_atF (cs : List Chg) : ∀ (L : List (List UInt8)) (c : Chg), cs.Pairwise (fun x y => x.no < y.no) → (∀ x ∈ cs, 0 ≤ x.no) → c ∈ cs → c.no.toNat < L.length → (upd L cs).getD c.no.toNat [] = c.page := by
  induction cs with
  | nil => intro L c _ _ hc; cases hc
  | cons x r ih =>
    intro L c hp h0 hc hl
    obtain ⟨p1, p2⟩ := List.pairwise_cons.1 hp
    show (upd (L.set x.no.toNat x.page) r).getD c.no.toNat [] = _
    rcases List.mem_cons.1 hc with rfl | hc
    · rw [Jn.upd_other _ _ _ (fun y hy => by have := p1 y hy; have := h0 c (by simp); have := h0 y (by simp [hy]); omega), List.getD_eq_getElem?_getD, List.getElem?_set_self hl]; rfl
    · exact ih _ c p2 (fun y hy => h0 y (by simp [hy])) hc (by rw [List.length_set]; exact hl)
/-- what was kept of a page -/
def gv (s : Sto) (i : Nat) : List UInt8 := (s.group.getD i none).getD (s.dk.last.getD i [])
theorem upd_gv (s : Sto) (h : s.Ok) (i : Nat) : (upd s.dk.last (chgs s.group)).getD i [] = gv s i := by
  unfold gv
  cases e : s.group.getD i none with
  | some p =>
    have hm : (⟨(i : Int), p⟩ : Chg) ∈ chgs s.group := chgs_mem.2 ⟨i, rfl, e⟩
    have := upd_atF (chgs s.group) s.dk.last ⟨(i : Int), p⟩ (chgs_pw _) (fun x hx => by obtain ⟨k, hk, _⟩ := chgs_mem.1 hx; omega) hm (by
      show ((i : Int)).toNat < _
      rw [Int.toNat_natCast, ← h.glen]; exact pgs_lt e)
    exact this
  | none =>
    refine Jn.upd_other _ _ _ (fun c hc q => ?_)
    obtain ⟨k, hk, hk2⟩ := chgs_mem.1 hc
    rw [hk, Int.toNat_natCast] at q
    rw [q, e] at hk2
    cases hk2
theorem join_gv {s : Sto} (h : s.Ok) {i : Nat} : gv (sjoin s) i = nv s i := by
  unfold gv nv
  show ((joinP s.group s.step).getD i none).getD (s.dk.last.getD i []) = _
  by_cases hi : i < s.group.length
  · rw [joinP_at _ _ _ hi]; rfl
  · have e1 : (joinP s.group s.step).getD i none = none := by
      rw [List.getD_eq_getElem?_getD, List.getElem?_eq_none (by rw [joinP_length]; omega)]; rfl
    have e2 : sheld s i = none := by
      unfold sheld
      rw [List.getD_eq_getElem?_getD, List.getElem?_eq_none (by rw [h.slen, ← h.glen]; omega), List.getD_eq_getElem?_getD, List.getElem?_eq_none (l := s.group) (by omega)]; rfl
    rw [e1, e2]
/-- no page is in the step -/
def Idle (s : Sto) : Prop := s.step = noPgs s.dk.last.length
theorem idle_nv {s : Sto} (h : Idle s) (i : Nat) : nv s i = gv s i := by
  unfold nv gv sheld
  rw [h, noPgs_at]; rfl
theorem idle_drop {s : Sto} (h : Idle s) : sdrop s = s := by
  unfold sdrop
  rw [← h]
theorem Vs.drop {s : Sto} {n I : Int} (h : Vs s n I) : Vs (sdrop s) n I := ⟨h.snd.drop, h.a, h.z, h.r, h.len, h.pl⟩
/-- the pages that are no journal's -/
def Out (n : Int) (i : Nat) : Prop := (i : Int) < n ∧ (i = 0 ∨ 41 ≤ i)
/-- a Sync, of a volume's store -/
theorem vsync_two {s : Sto} {n I : Int} (v : Vs s n I) (hq : s.q < 250) :
    (ssyncE s = 0 ∧ Vs (ssync s) n I ∧ (ssync s).step = s.step ∧ (ssync s).group = noPgs s.dk.last.length ∧ (ssync s).dk.last.length = s.dk.last.length ∧ (∀ i, Out n i → (ssync s).dk.last.getD i [] = gv s i) ∧ (ssync s).q ≤ s.q + 2 ∧ (ssync s).dk.lim = s.dk.lim) ∨
    (ssyncE s = 5 ∧ s.dk.lim = true ∧ (ssync s).over = true ∧ (ssync s).dk.Ok ∧ ∀ keep, Good false 1 40 (s.q + 2) (chgs s.group) s.dk.last (Dk.crash (ssync s).dk keep).last) := by
  rcases sync_two v.snd hq with ⟨e1, e2, e3, e4, e5, e6⟩ | ⟨e1, e2, e3, e4, _, e6⟩
  · left
    obtain ⟨_, g1, _, g3, g4⟩ := ssync_fine v.snd.ok e1
    have ha : (ssync s).a = s.a ∧ (ssync s).z = s.z := by
      unfold ssync
      split
      · exact ⟨rfl, rfl⟩
      · split
        · exact ⟨rfl, rfl⟩
        · split
          · exact ⟨rfl, rfl⟩
          · exact ⟨rfl, rfl⟩
    refine ⟨e1, ⟨e2, ha.1.trans v.a, ha.2.trans v.z, g4.trans v.r, by rw [e4]; exact v.len, v.pl⟩, g3, ?_, e4, fun i hi => ?_, e5, e6⟩
    · have := cntO_zero g1
      rw [e2.ok.glen, e4] at this
      exact this
    · have hi2 := hi.2
      rw [e3 i (by rw [v.a, v.z]; omega), upd_gv s v.snd.ok i]
  · right
    rw [v.a, v.z] at e6
    exact ⟨e1, e2, e3, e4, e6⟩
theorem noPgs_gv {s : Sto} {N : Nat} (h : s.group = noPgs N) (i : Nat) : gv s i = s.dk.last.getD i [] := by
  unfold gv
  rw [h, noPgs_at]; rfl
/-- a Keep, of a volume's store -/
theorem vkeep_two {s : Sto} {n I : Int} (v : Vs s n I) (hq : s.q < 250) :
    (skeepE s = 0 ∧ Vs (skeep s) n I ∧ Idle (skeep s) ∧ (∀ i, Out n i → gv (skeep s) i = nv s i) ∧ (skeep s).q ≤ s.q + 2 ∧ (skeep s).dk.lim = s.dk.lim ∧ ((skeep s).dk = s.dk ∨ ∀ i, Out n i → (skeep s).dk.last.getD i [] = gv s i)) ∨
    (skeepE s = 5 ∧ s.dk.lim = true ∧ (skeep s).over = true ∧ (skeep s).dk.Ok ∧ ∀ keep, Good false 1 40 (s.q + 2) (chgs s.group) s.dk.last (Dk.crash (skeep s).dk keep).last) := by
  have hup : ¬ s.over = true := by rw [v.snd.up]; simp
  unfold skeepE skeep
  rw [if_neg hup, if_neg hup]
  by_cases hr : s.r < stog s
  · rw [if_pos hr, if_pos hr]
    rcases vsync_two v hq with ⟨e1, e2, e3, e4, e5, e6, e7, e8⟩ | ⟨e1, e2, e3, e4, e5⟩
    · left
      rw [if_pos e1]
      refine ⟨e1, ⟨e2.snd.join (sjoin_sync v.snd.ok e1), e2.a, e2.z, e2.r, e2.len, e2.pl⟩, rfl, fun i hi => ?_, e7, e8, Or.inr e6⟩
      rw [join_gv e2.snd.ok]
      unfold nv
      rw [e6 i hi]
      unfold sheld gv
      rw [e3, e4, noPgs_at]
      cases s.step.getD i none <;> rfl
    · right
      rw [if_neg (by rw [e1]; decide)]
      exact ⟨e1, e2, e3, e4, e5⟩
  · rw [if_neg hr, if_neg hr]
    left
    exact ⟨rfl, ⟨v.snd.join (by omega), v.a, v.z, v.r, v.len, v.pl⟩, rfl, fun i _ => join_gv v.snd.ok, by show s.q ≤ s.q + 2; omega, rfl, Or.inl rfl⟩
/-- a volume between its steps, on a disk without a fuse -/
structure Calm (s : Sto) (n I : Int) (k : Nat) : Prop where
  vs : Vs s n I
  idle : Idle s
  q : s.q ≤ 1 + 2 * (k : Int)
  lim : s.dk.lim = false
theorem Goes.keeps {s s' : Sto} {L : List Nat} (g : Goes s s' L) : s'.dk = s.dk ∧ s'.group = s.group ∧ s'.q = s.q ∧ s'.over = s.over ∧ s'.r = s.r := by
  rw [g.same]
  exact ⟨rfl, rfl, rfl, rfl, rfl⟩
/-- a step: done, or nothing has changed -/
theorem Calm.step {α : Type} {s : Sto} {n I : Int} {k : Nat} (h : Calm s n I k) (hk : k ≤ 100) {m : Fs.M α} {er : Int} {s2 : Sto} {a : Option α} (ht : StepTo n I s m er s2 a) :
    Calm s2 n I (k + 1) ∧ ((∃ x V L, m (nv s) = (.ok x, V, L) ∧ er = 0 ∧ a = some x ∧ ∀ i, Out n i → nv s2 i = V i) ∨ (Fails s m er ∧ er ≠ 0 ∧ a = none ∧ s2 = s)) := by
  rcases ht with ⟨x, s', L, e, g, v, hz, rfl, rfl, rfl⟩ | ⟨f, h0, rfl, rfl⟩ | ⟨x, s', L, e, g, v, hz, _⟩
  · obtain ⟨g1, g2, g3, g4, g5⟩ := g.keeps
    rcases vkeep_two v (by rw [g3]; have := h.q; omega) with ⟨_, k2, k3, k4, k5, k6, _⟩ | ⟨k1, _⟩
    · refine ⟨⟨k2, k3, by rw [g3] at k5; have := h.q; omega, by rw [k6, g1]; exact h.lim⟩, Or.inl ⟨x, _, L, e, rfl, rfl, fun i hi => ?_⟩⟩
      rw [idle_nv k3]; exact k4 i hi
    · rw [k1] at hz; exact absurd hz (by decide)
  · rw [idle_drop h.idle]
    exact ⟨⟨h.vs, h.idle, by have := h.q; omega, h.lim⟩, Or.inr ⟨f, h0, rfl, rfl⟩⟩
  · obtain ⟨g1, g2, g3, g4, g5⟩ := g.keeps
    rcases vkeep_two v (by rw [g3]; have := h.q; omega) with ⟨k1, _⟩ | ⟨_, k2, _⟩
    · exact absurd k1 hz
    · rw [g1, h.lim] at k2; cases k2
theorem FmtS.calm {s : Sto} {n I : Int} (h : FmtS s n I) (hpl : Pl.rightB n I = true) : Calm s n I 0 :=
  ⟨h.vs hpl, by unfold Idle; rw [h.st]; rfl, by rw [h.q.1]; decide, h.lim⟩
theorem count_or {α : Type} (p q : α → Bool) : ∀ l : List α, l.countP (fun i => p i || q i) ≤ l.countP p + l.countP q
  | [] => by simp
  | x :: r => by
    have := count_or p q r
    rw [List.countP_cons, List.countP_cons, List.countP_cons]
    cases p x <;> cases q x <;> simp <;> omega
theorem count_one (x : Nat) : ∀ N, (List.range N).countP (fun i => i == x) ≤ (if x < N then 1 else 0)
  | 0 => by simp
  | N + 1 => by
    have := count_one x N
    rw [List.range_succ, List.countP_append, List.countP_singleton]
    by_cases c : N = x
    · subst c
      rw [if_neg (by omega)] at this
      simp; omega
    · have e : (N == x) = false := by simpa using c
      rw [e]
      simp only [Bool.false_eq_true, if_false]
      by_cases d : x < N
      · rw [if_pos d] at this; rw [if_pos (show x < N + 1 by omega)]; omega
      · rw [if_neg d] at this; rw [if_neg (show ¬ x < N + 1 by omega)]; omega
theorem count_ins (N : Nat) : ∀ L : List Nat, (List.range N).countP (fun i => L.contains i) ≤ L.length
  | [] => by simp
  | x :: L => by
    have h1 := count_ins N L
    have h2 := count_or (fun i => i == x) (fun i => L.contains i) (List.range N)
    have h3 := count_one x N
    have e : (fun i => (x :: L).contains i) = fun i => (i == x) || L.contains i := by
      funext i
      rw [List.contains_cons]
    rw [e, List.length_cons]
    split at h3 <;> omega
theorem cntU_le (N : Nat) (L : List Nat) : Fs.cntU (noPgs N) L ≤ L.length := by
  unfold Fs.cntU
  have e : (noPgs N).length = N := by unfold noPgs; simp
  rw [e]
  have h1 : (List.range N).countP (fun i => ((noPgs N).getD i none).isSome || L.contains i) = (List.range N).countP (fun i => L.contains i) := by
    congr 1
    funext i
    rw [noPgs_at]; rfl
  rw [h1]
  exact count_ins N L
end Go.Proofs.YtncmihikpcdgoaaGreat

namespace Go.Proofs.YtncmihikpcdgoaaGreat.Fs
open Dk (zeros zeros_length)
open Ii (Ino)
def Eqv (n : Int) (V V' : View) : Prop := ∀ i : Nat, 41 ≤ i → (i : Int) < n → V i = V' i
theorem Eqv.refl (n : Int) (V : View) : Eqv n V V := fun _ _ _ => rfl
theorem Eqv.symm {n : Int} {V V' : View} (h : Eqv n V V') : Eqv n V' V := fun i h1 h2 => (h i h1 h2).symm
theorem Eqv.trans {n : Int} {V V' V'' : View} (h : Eqv n V V') (k : Eqv n V' V'') : Eqv n V V'' := fun i h1 h2 => (h i h1 h2).trans (k i h1 h2)
/-- from these two views it does the same -/
def LocAt {α : Type} (n : Int) (m : M α) (V V' : View) : Prop := Eqv n V V' → (m V).1 = (m V').1 ∧ Eqv n (m V).2.1 (m V').2.1 ∧ (m V).2.2 = (m V').2.2
def Loc {α : Type} (n : Int) (m : M α) : Prop := ∀ V V', LocAt n m V V'
def LocT {α : Type} (n : Int) (f : View → α) : Prop := ∀ V V', Eqv n V V' → f V = f V'
section
variable {α β : Type} {n : Int}
theorem loc_ret (a : α) : Loc n (ret a) := fun _ _ h => ⟨rfl, h, rfl⟩
theorem loc_fail (e : Int) : Loc n (fail e : M α) := fun _ _ h => ⟨rfl, h, rfl⟩
theorem loc_see {f : View → α} (hf : LocT n f) : Loc n (see f) := fun V V' h => ⟨by unfold see; rw [hf V V' h], h, rfl⟩
theorem loc_tell {f : View → Except Int α} (hf : LocT n f) : Loc n (tell f) := fun V V' h => ⟨hf V V' h, h, rfl⟩
theorem loc_wr (i : Nat) (p : List UInt8) : Loc n (wr i p) := fun V V' h => ⟨rfl, fun j h1 h2 => by unfold wr upd; simp only; split; rfl; exact h j h1 h2, rfl⟩
theorem locAt_andThen {m : M α} {f : α → M β} {V V' : View} (hm : LocAt n m V V') (hf : ∀ a, (m V).1 = .ok a → LocAt n (f a) (m V).2.1 (m V').2.1) : LocAt n (andThen m f) V V' := by
  intro h
  obtain ⟨h1, h2, h3⟩ := hm h
  unfold andThen
  rcases e : m V with ⟨r, V1, L1⟩
  rcases e' : m V' with ⟨r', V1', L1'⟩
  rw [e, e'] at h1 h2 h3
  simp only at h1 h2 h3
  subst h1 h3
  cases r with
  | error er => exact ⟨rfl, h2, rfl⟩
  | ok a =>
    have hfa := hf a (by rw [e])
    rw [e, e'] at hfa
    obtain ⟨k1, k2, k3⟩ := hfa h2
    exact ⟨k1, k2, by simp only; rw [k3]⟩
theorem loc_andThen {m : M α} {f : α → M β} (hm : Loc n m) (hf : ∀ a, Loc n (f a)) : Loc n (andThen m f) := fun V V' => locAt_andThen (hm V V') fun a _ => hf a _ _
theorem loc_ite {c : Prop} [Decidable c] {m m' : M α} (h1 : c → Loc n m) (h2 : ¬ c → Loc n m') : Loc n (if c then m else m') := by
  split
  · exact h1 ‹_›
  · exact h2 ‹_›
theorem loc_err {f : View → Except Int α} {g : α → M β} {e : Int} (h : ∀ V, f V = .error e) : Loc n (andThen (tell f) g) := by
  intro V V' hE
  rw [andThen_err (show tell f V = (.error e, V, []) by unfold tell; rw [h]), andThen_err (show tell f V' = (.error e, V', []) by unfold tell; rw [h])]
  exact ⟨rfl, hE, rfl⟩
end
section
variable {n I : Int} (hpl : Pl.rightB n I = true)
include hpl
theorem pl_bd : 1 ≤ I ∧ I ≤ 128 ∧ n ≤ 512 ∧ Pl.dataN I < n ∧ 44 ≤ Pl.dataN I ∧ Pl.dataN I ≤ 107 ∧ Pl.dataN I = 43 + (I + 1) / 2 := by
  obtain ⟨h1, h2, h3, h4⟩ := Pl.right_yes hpl
  have hd := Pl.data_bd h1 h2
  exact ⟨h1, h2, h3, h4, hd.1, hd.2, rfl⟩
theorem tbl_bd {i : Int} (h1 : 1 ≤ i) (h2 : i ≤ I) : 43 ≤ tbl i ∧ (tbl i : Int) < Pl.dataN I := by
  obtain ⟨b1, b2, b3, b4, b5, b6, b7⟩ := pl_bd hpl
  unfold tbl
  omega
theorem loc_ino {i : Int} (h1 : 1 ≤ i) (h2 : i ≤ I) : LocT n (fun V => inoAt V i) := fun V V' h => by
  obtain ⟨b1, b2, b3, b4, b5, b6, b7⟩ := pl_bd hpl
  have ht := tbl_bd hpl h1 h2
  simp only
  unfold inoAt
  rw [h (tbl i) (by omega) (by omega)]
theorem loc_takenF (i : Int) : LocT n (takenF I i) := fun V V' h => by
  unfold takenF
  by_cases c : 1 ≤ i ∧ i ≤ I
  · have := loc_ino hpl c.1 c.2 V V' h
    simp only at this
    rw [if_pos c, if_pos c, this]
  · rw [if_neg c, if_neg c]
theorem loc_least : ∀ (c : Nat) (i : Int), 1 ≤ i → i + c ≤ I + 1 → LocT n (fun V => leastG V c i)
  | 0, _, _, _ => fun _ _ _ => rfl
  | c + 1, i, h1, h2 => fun V V' h => by
    have e := loc_ino hpl h1 (by omega) V V' h
    have r := loc_least c (i + 1) (by omega) (by omega) V V' h
    simp only at e r ⊢
    rw [leastG, leastG, e, r]
theorem loc_setI {i : Int} (h1 : 1 ≤ i) (h2 : i ≤ I) (x : Ino) : Loc n (setI i x) := fun V V' h => by
  obtain ⟨b1, b2, b3, b4, b5, b6, b7⟩ := pl_bd hpl
  have ht := tbl_bd hpl h1 h2
  unfold setI
  rw [← h (tbl i) (by omega) (by omega)]
  split
  · exact loc_ret () V V' h
  · exact loc_wr _ _ V V' h
theorem loc_mark {at1 : Nat} (h1 : 41 ≤ at1) (h2 : at1 ≤ 42) (bit : Int) (on1 : Bool) : Loc n (markM at1 bit on1) := fun V V' h => by
  obtain ⟨b1, b2, b3, b4, b5, b6, b7⟩ := pl_bd hpl
  unfold markM
  rw [← h at1 h1 (by omega)]
  exact loc_wr _ _ V V' h
theorem loc_data (m : Int) : LocT n (dataF n I m) := fun V V' h => by
  obtain ⟨b1, b2, b3, b4, b5, b6, b7⟩ := pl_bd hpl
  unfold dataF
  by_cases c : m = 0
  · rw [if_pos c, if_pos c]
  · rw [if_neg c, if_neg c]
    by_cases d : isData n I m
    · have d2 := d
      unfold isData at d2
      rw [if_pos d, if_pos d, h m.toNat (by omega) (by omega)]
    · rw [if_neg d, if_neg d]
theorem loc_take : Loc n (takeM n I) := by
  obtain ⟨b1, b2, b3, b4, b5, b6, b7⟩ := pl_bd hpl
  unfold takeM
  refine loc_andThen (loc_see fun V V' h => by rw [h 42 (by omega) (by omega)]) fun b => loc_ite (fun _ => loc_fail _) fun _ => ?_
  exact loc_andThen (loc_mark hpl (by omega) (by omega) _ _) fun _ => loc_andThen (loc_wr _ _) fun _ => loc_ret _
theorem loc_goR : ∀ (ks : List Int) (m : Int), Loc n (goR n I ks m)
  | [], m => loc_ret m
  | k :: ks, m => by
    rw [goR]
    refine loc_andThen (loc_tell (loc_data hpl m)) fun p => loc_ite (fun _ => ?_) fun _ => loc_goR ks _
    exact loc_andThen (loc_take hpl) fun t => loc_andThen (loc_wr _ _) fun _ => loc_goR ks t
theorem loc_reach (x : Ino) (i : Int) : Loc n (reachM n I x i) := by
  unfold reachM
  refine loc_ite (fun _ => ?_) fun _ => ?_
  · exact loc_andThen (loc_take hpl) fun m => loc_andThen (loc_goR hpl _ _) fun t => loc_ret _
  · exact loc_andThen (loc_goR hpl _ _) fun t => loc_ret _
theorem loc_wloop : ∀ (cs : List Pc) (x : Ino) (t : List UInt8), Loc n (wloop n I cs x t)
  | [], x, _ => loc_ret x
  | c :: cs, x, t => by
    rw [wloop]
    exact loc_andThen (loc_reach hpl x _) fun z => loc_andThen (loc_tell (loc_data hpl _)) fun p => loc_andThen (loc_wr _ _) fun _ => loc_wloop cs _ _
omit hpl in
theorem loc_right (x : Ino) : Loc n (rightM n I x) := by
  unfold rightM
  exact loc_ite (fun _ => loc_fail _) fun _ => loc_ret _
theorem loc_new (x : Ino) : Loc n (newM n I x) := by
  obtain ⟨b1, b2, b3, b4, b5, b6, b7⟩ := pl_bd hpl
  unfold newM leastM
  refine loc_andThen (loc_right _) fun y => fun V V' => ?_
  refine locAt_andThen (loc_tell (loc_least hpl I.toNat 1 (by omega) (by omega)) V V') fun i hi => ?_
  have hb := least_bd _ _ (show leastG V I.toNat 1 = .ok i from hi)
  exact (loc_andThen (loc_setI hpl (by omega) (by omega) y) fun _ => loc_andThen (loc_mark hpl (by decide) (by decide) _ _) fun _ => loc_ret _) _ _
omit hpl in
theorem taken_out {i : Int} (c : ¬ (1 ≤ i ∧ i ≤ I)) (V : View) : takenF I i V = .error 22 := by unfold takenF; rw [if_neg c]
theorem loc_write (i off : Int) (t : List UInt8) : Loc n (writeM n I i off t) := by
  unfold writeM
  by_cases c : 1 ≤ i ∧ i ≤ I
  · refine loc_andThen (loc_tell (loc_takenF hpl i)) fun x => loc_ite (fun _ => loc_fail _) fun _ => loc_ite (fun _ => loc_ret _) fun _ => loc_ite (fun _ => loc_fail _) fun _ => ?_
    exact loc_andThen (loc_wloop hpl _ _ _) fun y => loc_setI hpl c.1 c.2 y
  · exact loc_err (taken_out c)
theorem loc_free : LocT n (freeV n I) := fun V V' h => by
  obtain ⟨b1, b2, b3, b4, b5, b6, b7⟩ := pl_bd hpl
  unfold freeV
  rw [h 42 (by omega) (by omega)]
theorem loc_spareG : ∀ (c : Nat) (i : Int), 1 ≤ i → i + c ≤ I + 1 → LocT n (fun V => spareG V c i)
  | 0, _, _, _ => fun _ _ _ => rfl
  | c + 1, i, h1, h2 => fun V V' h => by
    have e := loc_ino hpl h1 (by omega) V V' h
    have r := loc_spareG c (i + 1) (by omega) (by omega) V V' h
    simp only at e r ⊢
    rw [spareG, spareG, e, r]
theorem loc_spare : LocT n (spareV I) := fun V V' h => by
  obtain ⟨b1, b2, b3, b4, b5, b6, b7⟩ := pl_bd hpl
  exact loc_spareG hpl I.toNat 1 (by omega) (by omega) V V' h
end
end Go.Proofs.YtncmihikpcdgoaaGreat.Fs

namespace Go.Proofs.YtncmihikpcdgoaaGreat
open Go.RowKit Go.Maps
open Dk (zeros zeros_length)
open Ii (Ino)
def awI : Ino := { k := 1, p := 0, u := 0, l := 1, s := 0, a := 0, b := 0, c := 0, d := 0, e := 0, f := 0 }
def awM : Fs.M Int := Fs.andThen (Fs.newM 60 4 awI) fun i => Fs.andThen (Fs.writeM 60 4 i 2304 [120]) fun _ => Fs.ret i
def awR (r : Fs.Out Int) : Option (Int × Nat × Int) := match r with
  | (.ok a, V, L) => some (a, L.length, Fs.freeV 60 4 V)
  | (.error _, _, _) => none
set_option maxRecDepth 100000 in
theorem aw_run : awR (awM (fmtP 60 4)) = some (2, 12, 12) := by kernel_rfl
set_option maxRecDepth 100000 in
theorem aw_pl : Pl.rightB 60 4 = true := by decide
set_option maxRecDepth 100000 in
theorem aw_free : Fs.freeV 60 4 (fmtP 60 4) = 15 ∧ Fs.spareV 4 (fmtP 60 4) = 3 := by
  constructor <;> kernel_rfl
theorem aw_loc : Fs.Loc 60 awM := by
  unfold awM
  exact Fs.loc_andThen (Fs.loc_new aw_pl _) fun i => Fs.loc_andThen (Fs.loc_write aw_pl _ _ _) fun _ => Fs.loc_ret _
theorem FmtS.eqv {s : Sto} {n I : Int} (h : FmtS s n I) : Fs.Eqv n (nv s) (fmtP n I) := fun i h1 h2 => h.pg i h2 (by omega)
/-- awake's step goes well -/
theorem aw_step {s : Sto} (h : FmtS s 60 4) {er : Int} {s2 : Sto} {a : Option Int} (ht : StepTo 60 4 s awM er s2 a) : er = 0 ∧ a = some 2 ∧ Calm s2 60 4 1 ∧ Fs.freeV 60 4 (nv s2) = 12 := by
  have hc := h.calm aw_pl
  obtain ⟨c2, hr⟩ := hc.step (by decide) ht
  have hl := aw_loc (nv s) (fmtP 60 4) h.eqv
  have hrun := aw_run
  rcases hm : awM (fmtP 60 4) with ⟨r, V, L⟩
  rw [hm] at hl hrun
  cases r with
  | error e => simp [awR] at hrun
  | ok b =>
    unfold awR at hrun
    simp only [Option.some.injEq, Prod.mk.injEq] at hrun
    obtain ⟨rfl, hL, hF⟩ := hrun
    rcases hr with ⟨x, V2, L2, e, rfl, rfl, hv⟩ | ⟨hf, h0, _, _⟩
    · rw [e] at hl
      obtain ⟨k1, k2, _⟩ := hl
      simp only [Except.ok.injEq] at k1
      subst k1
      refine ⟨rfl, rfl, c2, ?_⟩
      rw [← hF]
      exact Fs.loc_free aw_pl _ _ (fun i h1 h2 => (hv i ⟨h2, Or.inr h1⟩).trans (k2 i h1 h2))
    · exfalso
      rcases hf with ⟨V2, L2, e⟩ | ⟨_, hf⟩
      · rw [e] at hl
        cases hl.1
      · have := cntU_le s.dk.last.length (awM (nv s)).2.2
        rw [hl.2.2] at this hf
        rw [hc.idle, hc.vs.r] at hf
        have hL2 : L.length = 12 := hL
        simp only at this hf
        omega
set_option maxRecDepth 100000 in
set_option maxHeartbeats 2000000 in
theorem awD_any {w : World} {B : Nat} {b : Blk} {s : Sto} (h : Ctx w B b s 60 4) (X : Nat) (hX : RowAt w X [.int .i64 0]) (hXB : X ≠ B) (hXt : X ∉ b.all) :
    Calls Tryz.prog 35 #[.pointer (some ⟨B, 0, none⟩), .pointer (some ⟨X, 0, none⟩)] w (Cb B b 60 4 [X] w s awM (fun a w' => RowAt w' X [.int .i64 a]) (fun w' => ∃ a, RowAt w' X [.int .i64 a])) := by
  have hXt' : X ≠ b.t := fun q => hXt (q ▸ b.t_mem)
  have HN : Hid (Calls Tryz.prog 14 #[.pointer (some ⟨B, 0, none⟩), .agg #[.int .i64 1, .int .i64 0, .int .i64 0, .int .i64 1, .int .i64 0, .int .i64 0, .int .i64 0, .int .i64 0, .int .i64 0, .int .i64 0, .int .i64 0]] w (Ends B b 60 4 [] w s (Fs.newM 60 4 awI) fun i e _ => e = .returned (.int .i64 i))) := Lib.hid (snew_step h awI)
  have HW : Hid (∀ W s' i, Ctx W B b s' 60 4 → Calls Tryz.prog 17 #[.pointer (some ⟨B, 0, none⟩), .int .i64 i, .int .i64 2304, .string ⟨#[120]⟩] W (Ends B b 60 4 [] W s' (Fs.writeM 60 4 i 2304 [120]) fun _ e _ => e = .returned (.tuple #[]))) := Lib.hid (fun W s' i hc => swrite_step hc i 2304 [120] (by decide))
  have HX := Lib.hid hX
  clear h hX
  unfold awM
  go_enter Tryz.func35, Tryz.ntmps35
  go_wp2_with fail
  refine HN.out.mono ?_
  rintro e w3 (⟨a, s', L, E, G, C, rfl, O⟩ | ⟨er, F, h0, Br, rfl, O⟩)
  · have k1 : RowAt w3 X [.int .i64 0] := HX.out.only O (by simpa using hXt')
    have ff := k1.frozen 0 (show 0 < 1 by decide)
    have cc := k1.cell 0 _ rfl
    have k2 : RowAt (w3.setCell ⟨X, 0, none⟩ (.int .i64 a)) X [.int .i64 a] := RowAt.setOne k1 0 (.int .i64 a) (show 0 < 1 by decide)
    have O2 : Only [X] w3 (w3.setCell ⟨X, 0, none⟩ (.int .i64 a)) := (Only.refl _ w3).setCell (p := ⟨X, 0, none⟩) (by simp) _
    have C2 := C.only O2 (by simpa using fun q => hXB q.symm) (fun i hi q => by rw [List.mem_singleton] at q; subst q; exact hXt hi)
    go_wp2_with fail
    have O3 : Only [b.t, X] w (w3.setCell ⟨X, 0, none⟩ (.int .i64 a)) := (O.mono (by simp)).trans (O2.mono (by simp))
    generalize World.setCell _ _ _ = w4 at k2 O2 O3 C2 ⊢
    refine (HW.out w4 s' a C2).mono ?_
    rintro e w5 (⟨_, s2, L2, E2, G2, C3, rfl, O4⟩ | ⟨er, F, h0, Br, rfl, O4⟩)
    · go_wp2_with fail
      go_end0
      refine Or.inl ⟨a, s2, L ++ (L2 ++ []), by rw [Fs.andThen_ok E, Fs.andThen_ok E2]; rfl, by rw [List.append_nil]; exact G.trans G2, C3, rfl, k2.only O4 (by simpa using hXt'), O3.trans (O4.mono (by simp))⟩
    · refine ⟨rfl, Or.inr ⟨er, (F.bind).next E G, h0, Br.goes G, rfl, ⟨a, k2.only O4 (by simp; exact ⟨hXB, hXt'⟩)⟩, ?_⟩⟩
      exact (O3.mono (by simp)).trans (O4.mono (by simp))
  · refine ⟨rfl, Or.inr ⟨er, F.bind, h0, Br, rfl, ⟨0, HX.out.only O (by simp; exact ⟨hXB, hXt'⟩)⟩, O.mono (fun k hk => by simp only [List.mem_cons, List.not_mem_nil, or_false] at hk ⊢; rcases hk with rfl | rfl <;> simp)⟩⟩
end Go.Proofs.YtncmihikpcdgoaaGreat

namespace Go.Proofs.YtncmihikpcdgoaaGreat
open Go.RowKit Go.Maps
open Dk (zeros zeros_length)
open Ii (Ino)
theorem stable_ex (X : Nat) (N : Nat) : Stable [X] N (fun w => ∃ a, RowAt w X [.int .i64 a]) := fun w w' L h ho hk hN => by
  obtain ⟨a, h⟩ := h
  exact ⟨a, h.only ho (fun q => hk X q (by simp))⟩
set_option maxRecDepth 100000 in
set_option maxHeartbeats 2000000 in
theorem fawake_any (w : World) : Calls Tryz.prog 7 #[] w fun e w' => e = .returned (.bool true) ∧ Below w.heap.size w w' := by
  have hmf : ∀ (fn : Fn) (first cap : Array Value) (w : World), (Instr.makeFunc fn first cap).run Tryz.prog w = .ok (.func fn first cap) w := fun _ _ _ _ => rfl
  have HF : Hid (Calls Tryz.prog 9 #[.int .i64 60, .int .i64 4] w fun e w' => ∃ (V : Nat) (b : Blk) (s : Sto), e = .returned (.tuple #[.pointer (some ⟨V, 0, none⟩), .pointer (some ⟨b.d, 0, none⟩)]) ∧ VolAt w' V b s 60 4 0 ∧ FmtS s 60 4 ∧ Below w.heap.size w w' ∧ w.heap.size ≤ V ∧ ∀ k ∈ b.all, w.heap.size ≤ k) := Lib.hid (lawFresh_any w 60 4 aw_pl)
  go_enter Tryz.func7, Tryz.ntmps7
  go_wp2_with fail
  refine HF.out.mono ?_
  rintro e w1 ⟨V, b, s, rfl, hv, hs, hb1, hV1, hbb⟩
  have hvs := hs.vs aw_pl
  have HV := Lib.hid hv
  have HFR : Hid (Calls Tryz.prog 25 #[.pointer (some ⟨V, 0, none⟩)] w1 fun e w' => e = .returned (.int .i64 15) ∧ Below w1.heap.size w1 w') := Lib.hid (by
    have := vfree_any hv hvs
    rw [Fs.loc_free aw_pl _ _ hs.eqv, aw_free.1] at this
    exact this)
  have HSP : Hid (∀ W, Below w1.heap.size w1 W → Calls Tryz.prog 29 #[.pointer (some ⟨V, 0, none⟩)] W fun e w' => e = .returned (.int .i64 3) ∧ Below W.heap.size W w') := Lib.hid (fun W hb => by
    have := vspare_any (hv.below hb) hvs
    rw [Fs.loc_spare aw_pl _ _ hs.eqv, aw_free.2] at this
    exact this)
  have hlt := hv.row.lt
  clear hv
  go_wp2_with (first
    | (go_at_call 25; (with_reducible refine HFR.out.mono ?_); rintro e w2 ⟨rfl, hb2⟩)
    | (go_at_call 29; (with_reducible refine (HSP.out _ hb2).mono ?_); rintro e w3 ⟨rfl, hb3⟩))
  have hb4 := hb2.trans (hb3.mono hb2.size)
  have HV4 := (HV.out.below hb4).alloc (.cells #[.int .i64 0] 3)
  have S := (Lo.start (L := []) w3 (by simp)).alloc _ rfl [.int .i64 0] 3
  have rX : RowAt (w3.alloc (.cells #[.int .i64 0] 3)) w3.heap.size [.int .i64 0] := S.get 0 _ rfl
  have hs3 : (w3.alloc (.cells #[.int .i64 0] 3)).heap.size = w3.heap.size + 1 := by simp
  have hb5 : Below w1.heap.size w1 (w3.alloc (.cells #[.int .i64 0] 3)) := hb4.alloc hb4.size _
  have hw3 := hb4.size
  generalize World.alloc _ _ = w4 at HV4 rX hs3 hb5 ⊢
  have hbx : ∀ k ∈ b.all, k < w3.heap.size := fun k hk => Nat.lt_of_lt_of_le (HV.out.store.lt k hk) hw3
  have HD := do_any HV4 hvs (by rw [hs.q.1]; decide) [w3.heap.size] (fun k hk => by rw [List.mem_singleton] at hk; subst hk; exact ⟨by omega, by omega, fun q => by have := hbx _ q; omega⟩) awM (fun a w' => RowAt w' w3.heap.size [.int .i64 a]) (fun w' => ∃ a, RowAt w' w3.heap.size [.int .i64 a])
    (fun a => stable_row _ _ _ (by omega)) (stable_ex _ _) 35 #[.pointer (some ⟨w3.heap.size, 0, none⟩)] (fun args W => by simp [go_sem]) (fun B w5 hB hc ho => by
      exact awD_any hc w3.heap.size (rX.only ho (by simp; omega)) (by omega) (fun q => by have := hbx _ q; omega))
  refine HD.mono ?_
  rintro e w5 ⟨hst, hO⟩
  obtain ⟨er, s2, a, hto, rfl, HV5, hPa⟩ := hst.to
  obtain ⟨rfl, rfl, hc2, hfr⟩ := aw_step hs hto
  have hr : RowAt w5 w3.heap.size [.int .i64 2] := hPa
  have cc := hr.cell 0 _ rfl
  have HF2 : Hid (Calls Tryz.prog 25 #[.pointer (some ⟨V, 0, none⟩)] w5 fun e w' => e = .returned (.int .i64 12) ∧ Below w5.heap.size w5 w') := Lib.hid (by
    have := vfree_any HV5 hc2.vs
    rw [hfr] at this
    exact this)
  go_wp2_with (go_at_call 25; (with_reducible refine HF2.out.mono ?_); rintro e w6 ⟨rfl, hb6⟩)
  go_ret
  have hsz := hb1.size
  have hb7 : Below w.heap.size w w5 := Only.toBelowOld (hb1.trans (hb5.mono hsz)) hO (by have := hb5.size; omega) (fun k hk => by
    simp only [List.mem_cons, List.mem_append, List.not_mem_nil, or_false] at hk
    rcases hk with rfl | hk | rfl
    · exact hV1
    · exact hbb k hk
    · omega)
  exact ⟨rfl, hb7.trans (hb6.mono hb7.size)⟩
end Go.Proofs.YtncmihikpcdgoaaGreat

namespace Go.Proofs.YtncmihikpcdgoaaGreat
open Go.ChangeShapes Go.WideShapes Go.ChangeAt Go.RowKit
open Dk (zeros zeros_length)
open Ii (Ino)
set_option maxRecDepth 100000 in
theorem ino_cells {H : Type} {enc : TypeId × Value → H} {W : World} {fuel : Nat} {base : Nat} {spare : Nat → Bool} {held : Bool} {cs : List Value} {z : DataW H × List MemPlace} (ht : DataW.trod enc Tryz.prog W base spare held fuel 31 cs = some z) :
    ∃ x : Ino, cs = inoL x := by
  obtain ⟨xs, n, _, rfl, hcl, hlen, hf⟩ := DataW.trod_struct Tryz.underlying31 ht
  have hC : Tryz.prog.cellsOf 31 = 11 := by kernel_rfl
  have hA : Tryz.prog.cellsOf 29 = 4 := by kernel_rfl
  rw [hC] at hcl
  match xs, hlen with
  | [y0, y1, y2, y3, y4, y5, y6, y7], _ =>
    obtain ⟨k, e0, _, _⟩ := DataW.trod_int Tryz.underlying3 (hf 0 _ rfl)
    obtain ⟨p, e1, _, _⟩ := DataW.trod_int Tryz.underlying3 (hf 1 _ rfl)
    obtain ⟨u, e2, _, _⟩ := DataW.trod_int Tryz.underlying3 (hf 2 _ rfl)
    obtain ⟨l, e3, _, _⟩ := DataW.trod_int Tryz.underlying3 (hf 3 _ rfl)
    obtain ⟨s, e4, _, _⟩ := DataW.trod_int Tryz.underlying3 (hf 4 _ rfl)
    obtain ⟨e, e9, _, _⟩ := DataW.trod_int Tryz.underlying3 (hf 6 _ rfl)
    obtain ⟨f, e10, _, _⟩ := DataW.trod_int Tryz.underlying3 (hf 7 _ rfl)
    obtain ⟨zs, mm, _, _, hal, hxl, hx⟩ := DataW.trod_array Tryz.underlying29 (hf 5 _ rfl)
    have four : ∀ j, j < 4 → ∃ v : Int, ((((cs.drop 5).take 4).drop j).take 1) = [.int .i64 v] := fun j hj => by
      have hx' := hx j (by omega)
      rw [cellsI, Nat.mul_one] at hx'
      have hs : zs[j]? = some (zs[j]'(by omega)) := List.getElem?_eq_getElem (by omega)
      obtain ⟨v, hv, _, _⟩ := DataW.trod_int Tryz.underlying3 (hx'.trans hs)
      exact ⟨v, hv⟩
    obtain ⟨a, e5⟩ := four 0 (by omega)
    obtain ⟨b, e6⟩ := four 1 (by omega)
    obtain ⟨c, e7⟩ := four 2 (by omega)
    obtain ⟨d, e8⟩ := four 3 (by omega)
    have c0 : (cs.drop 0).take (Tryz.prog.cellsOf 3) = [.int .i64 k] := e0
    have c1 : (cs.drop 1).take (Tryz.prog.cellsOf 3) = [.int .i64 p] := e1
    have c2 : (cs.drop 2).take (Tryz.prog.cellsOf 3) = [.int .i64 u] := e2
    have c3 : (cs.drop 3).take (Tryz.prog.cellsOf 3) = [.int .i64 l] := e3
    have c4 : (cs.drop 4).take (Tryz.prog.cellsOf 3) = [.int .i64 s] := e4
    have c9 : (cs.drop 9).take (Tryz.prog.cellsOf 3) = [.int .i64 e] := e9
    have c10 : (cs.drop 10).take (Tryz.prog.cellsOf 3) = [.int .i64 f] := e10
    rw [cellsI] at c0 c1 c2 c3 c4 c9 c10
    refine ⟨⟨k, p, u, l, s, a, b, c, d, e, f⟩, ?_⟩
    match cs, hcl with
    | [v0, v1, v2, v3, v4, v5, v6, v7, v8, v9, v10], _ =>
      simp at c0 c1 c2 c3 c4 e5 e6 e7 e8 c9 c10
      subst c0 c1 c2 c3 c4 e5 e6 e7 e8 c9 c10
      rfl
set_option maxRecDepth 100000 in
/-- what is known of an op that came in -/
structure FopOk (o : Fop) : Prop where
  lo : -9223372036854775808 ≤ o.off
  hi : o.off ≤ 9223372036854775807
structure FopRow (w : World) (A : Option Addr) (n : Nat) (os : List Fop) : Prop where
  len : os.length = n
  small : n ≤ maxLen
  ok : ∀ o ∈ os, FopOk o
  cells : 0 < n → ∃ b off, A = some ⟨b, off, none⟩ ∧ b < w.heap.size ∧ ∀ i o, os[i]? = some o → w.rangeAt b (off + i * 16) (opL o)
set_option maxRecDepth 100000 in
theorem FopRow.step {w w' : World} {A : Option Addr} {n : Nat} {os : List Fop} (h : FopRow w A n os) (hb : Below w.heap.size w w') : FopRow w' A n os :=
  ⟨h.len, h.small, h.ok, fun h0 => by
    obtain ⟨b, off, e, hlt, hc⟩ := h.cells h0
    exact ⟨b, off, e, Nat.lt_of_lt_of_le hlt hb.size, fun i c hi => rangeAt_block (hc i c hi) (hb.block _ hlt)⟩⟩
set_option maxRecDepth 100000 in
theorem FopRow.only {w w' : World} {A : Option Addr} {n : Nat} {os : List Fop} {L : List Nat} (h : FopRow w A n os) (ho : Only L w w') (hL : ∀ k ∈ L, w.heap.size ≤ k ∨ ∀ b off, A = some ⟨b, off, none⟩ → b ≠ k) : FopRow w' A n os :=
  ⟨h.len, h.small, h.ok, fun h0 => by
    obtain ⟨b, off, e, hlt, hc⟩ := h.cells h0
    refine ⟨b, off, e, Nat.lt_of_lt_of_le hlt ho.size, fun i c hi => rangeAt_block (hc i c hi) (ho.block b hlt (fun q => ?_))⟩
    rcases hL b q with g | g
    · omega
    · exact g b off e rfl⟩
set_option maxRecDepth 100000 in
theorem cellsFop : Tryz.prog.cellsOf 33 = 16 := by kernel_rfl
set_option maxRecDepth 100000 in
theorem cellsStr : Tryz.prog.cellsOf 9 = 1 := by kernel_rfl
set_option maxRecDepth 100000 in
theorem fop_cells {H : Type} {enc : TypeId × Value → H} {W : World} {fuel : Nat} {base : Nat} {spare : Nat → Bool} {held : Bool} {cs : List Value} {z : DataW H × List MemPlace} (ht : DataW.trod enc Tryz.prog W base spare held fuel 33 cs = some z) :
    ∃ o : Fop, FopOk o ∧ cs = opL o := by
  obtain ⟨xs, n, _, rfl, hcl, hlen, hf⟩ := DataW.trod_struct Tryz.underlying33 ht
  rw [cellsFop] at hcl
  match xs, hlen with
  | [y0, y1, y2, y3, y4, y5], _ =>
    obtain ⟨k, e0, _, _⟩ := DataW.trod_int Tryz.underlying3 (hf 0 _ rfl)
    obtain ⟨i, e1, _, _⟩ := DataW.trod_int Tryz.underlying3 (hf 1 _ rfl)
    obtain ⟨f, e2, _, w2⟩ := DataW.trod_int Tryz.underlying3 (hf 2 _ rfl)
    obtain ⟨m, e3, _, _⟩ := DataW.trod_int Tryz.underlying3 (hf 3 _ rfl)
    obtain ⟨s, e4, _, _⟩ := DataW.trod_string Tryz.underlying9 (hf 4 _ rfl)
    obtain ⟨x, e5⟩ := ino_cells (hf 5 _ rfl)
    have hb := bounds_i64 w2
    refine ⟨⟨k, i, f, m, s.data.toList, x⟩, ⟨hb.1, hb.2⟩, ?_⟩
    have c0 : (cs.drop 0).take (Tryz.prog.cellsOf 3) = [.int .i64 k] := e0
    have c1 : (cs.drop 1).take (Tryz.prog.cellsOf 3) = [.int .i64 i] := e1
    have c2 : (cs.drop 2).take (Tryz.prog.cellsOf 3) = [.int .i64 f] := e2
    have c3 : (cs.drop 3).take (Tryz.prog.cellsOf 3) = [.int .i64 m] := e3
    have c4 : (cs.drop 4).take (Tryz.prog.cellsOf 9) = [.string s] := e4
    have c5 : (cs.drop 5).take (Tryz.prog.cellsOf 31) = inoL x := e5
    have hC : Tryz.prog.cellsOf 31 = 11 := by kernel_rfl
    rw [cellsI] at c0 c1 c2 c3
    rw [cellsStr] at c4
    rw [hC] at c5
    match cs, hcl with
    | v0 :: v1 :: v2 :: v3 :: v4 :: r, hr =>
      simp at c0 c1 c2 c3 c4
      subst c0 c1 c2 c3 c4
      have h5 : r = inoL x := by
        have : ((.int .i64 k : Value) :: .int .i64 i :: .int .i64 f :: .int .i64 m :: .string s :: r).drop 5 = r := rfl
        rw [this, List.take_of_length_le (by simp at hr; omega)] at c5
        exact c5
      rw [h5]
      unfold opL
      rw [strOf_bytes]
set_option maxRecDepth 100000 in
theorem open_fops {H : Type} {enc : TypeId × Value → H} {W : World} {base : Nat} {v : Value} {d : DataW H} {p : List MemPlace} (hv : Value.okWide Tryz.prog W .any base 22 v)
    (h : DataW.Trod enc Tryz.prog W 0 (fun _ => true) true 22 v d p) : ∃ A n c os, v = .slice A n c ∧ FopRow W A n os := by
  obtain ⟨A, n, c, rfl⟩ := okWide_slice Tryz.underlying22 hv
  obtain ⟨fuel, hf⟩ := h
  rcases Go.Deep.open_slice Tryz.underlying22 hf with ⟨hcs, _⟩ | ⟨a, len, cap, m, k, D, Pl, hcs, _, hl, hm, hmm, _, hi⟩
  · simp [Value.cells] at hcs
    obtain ⟨rfl, rfl, rfl⟩ := hcs
    exact ⟨_, _, _, [], rfl, rfl, by unfold maxLen; omega, fun o ho => absurd ho (by simp), fun hn => by omega⟩
  · simp [Value.cells] at hcs
    obtain ⟨rfl, rfl, rfl⟩ := hcs
    simp only [if_true] at hmm
    have each : ∀ i, i < n → ∃ o : Fop, FopOk o ∧ ∀ j u, (opL o)[j]? = some u → W.cell? ((a.add (i * 16)).add j) = some u := by
      intro i hin
      obtain ⟨cs, hc, ht⟩ := hi i (by omega)
      rw [cellsFop] at hc
      obtain ⟨_, hcl, hat⟩ := World.cells?_some hc
      obtain ⟨o, ho, he⟩ := fop_cells ht
      refine ⟨o, ho, fun j u hu => ?_⟩
      rw [← he] at hu
      have hj : j < 16 := by have := (List.getElem?_eq_some_iff.1 hu).1; omega
      rw [hat j hj, hu]
    obtain ⟨os, hol, hos⟩ := list_of _ n each
    have hget : ∀ i o, os[i]? = some o → FopOk o ∧ ∀ j u, (opL o)[j]? = some u → W.cell? ((a.add (i * 16)).add j) = some u := by
      intro i o ho
      have hin : i < n := by have := (List.getElem?_eq_some_iff.1 ho).1; omega
      obtain ⟨q, hq, h1⟩ := hos i hin
      rw [ho] at hq
      injection hq with hq
      rw [hq]; exact h1
    refine ⟨_, _, _, os, rfl, hol, by omega, fun o ho => ?_, fun hn => ?_⟩
    · obtain ⟨i, hi', he⟩ := List.getElem_of_mem ho
      exact (hget i o (by rw [List.getElem?_eq_getElem hi', he])).1
    · obtain ⟨o0, ho0⟩ : ∃ o, os[0]? = some o := ⟨_, List.getElem?_eq_getElem (by omega)⟩
      obtain ⟨b, off, spot⟩ := a
      have hcell0 := (hget 0 o0 ho0).2 0 _ (show (opL o0)[0]? = some (.int .i64 o0.k) from rfl)
      have hspot : spot = none := by simpa [Addr.add] using World.cell?_spot hcell0
      subst hspot
      refine ⟨b, off, rfl, ?_, fun i o ho j u hu => ?_⟩
      · rw [Addr.add_mid, Addr.add_mid] at hcell0
        exact World.block_lt_of_cell? W _ hcell0
      · have := (hget i o ho).2 j u hu
        rw [Addr.add_mid, Addr.add_mid] at this
        exact this
end Go.Proofs.YtncmihikpcdgoaaGreat

namespace Go.Proofs.YtncmihikpcdgoaaGreat
open Go.RowKit Go.Maps
open Dk (zeros zeros_length)
open Ii (Ino)
def GreatGive (most : Nat) (os : List Fop) (w : World) (e : Ending) (w' : World) : Prop :=
  ∃ g : Bool, e = .returned (.bool g) ∧ (g = false → os.length ≤ most ∧ ∀ o ∈ os, o.text.length ≤ 512) ∧ Below w.heap.size w w'
set_option maxRecDepth 100000 in
set_option maxHeartbeats 2000000 in
theorem fgreat_any {w : World} {A : Option Addr} {n c most : Nat} {os : List Fop} (h : FopRow w A n os) (hm : most ≤ 1000) : Calls Tryz.prog 8 #[.slice A n c, .int .i64 (most : Int)] w (GreatGive most os w) := by
  have hsm := h.small
  have HR := Lib.hid h
  have HL := Lib.hid h.len
  have S0 := Lib.hid (Lo.start (L := []) w (by simp))
  unfold maxLen at hsm
  clear h
  by_cases hgr : (most : Int) < (n : Int)
  · go_enter Tryz.func8, Tryz.ntmps8
    go_wp2_with fail
    go_ret
    exact ⟨true, rfl, (fun q => by cases q), Below.refl _ _⟩
  · go_enter Tryz.func8, Tryz.ntmps8
    go_wp2_with fail
    go_loopw [13] (fun i wr => ∃ (k : Nat), k ≤ n ∧ i = .int .i64 k ∧ Lo [] w [] wr ∧ Hid (∀ j o, j < k → os[j]? = some o → o.text.length ≤ 512)) (fun i _ => n - (intOf i).toNat)
    case atStart => exact ⟨0, Nat.zero_le _, rfl, S0.out, Lib.hid (fun j o hj => by omega)⟩
    case round =>
      clear S0
      obtain ⟨k, hk, rfl, hS, HG⟩ := hrel
      have S := Lib.hid hS
      clear hS
      by_cases hlt : k < n
      · obtain ⟨o, ho⟩ : ∃ o, os[k]? = some o := ⟨_, List.getElem?_eq_getElem (by rw [HL.out]; exact hlt)⟩
        have HR2 := Lib.hid (HR.out.step S.out.bel)
        obtain ⟨pb, poff, rfl, hpb, hpr⟩ := HR2.out.cells (by omega)
        have HPI := Lib.hid (hpr k o ho)
        have HK := Lib.hid ho
        clear hpr hpb ho
        have HSZ : Hid ((strOf o.text).size = o.text.length) := Lib.hid (str_size o.text)
        by_cases hq : (512 : Int) < ((strOf o.text).size : Int)
        · go_wp2_with (first
            | (with_reducible refine wpList_load_mid rfl 33 (.tmp 15) rfl pb (poff + k * 16) rfl (opL o) _ HPI.out Tryz.underlying33 rfl (by kernel_rfl) ?_)
            | ((with_reducible refine wpList_store_newrow (vs := opL o) opT ?_ (opL_one _) rfl (.tmp 6) (.tmp 16) rfl rfl ?_ ?_ ?_); (exact rfl); (exact rfl); (exact rfl); intro W4 hP hB2 hz2; have S2 := Lib.hid (S.out.made hP hB2 hz2); clear hP hB2 hz2; have c4 := (S2.out.get 0 _ rfl).cell 4 _ rfl))
          go_ret
          exact ⟨true, rfl, (fun q => by cases q), S2.out.bel⟩
        · go_wp2_with (first
            | (with_reducible refine wpList_load_mid rfl 33 (.tmp 15) rfl pb (poff + k * 16) rfl (opL o) _ HPI.out Tryz.underlying33 rfl (by kernel_rfl) ?_)
            | ((with_reducible refine wpList_store_newrow (vs := opL o) opT ?_ (opL_one _) rfl (.tmp 6) (.tmp 16) rfl rfl ?_ ?_ ?_); (exact rfl); (exact rfl); (exact rfl); intro W4 hP hB2 hz2; have S2 := Lib.hid (S.out.made hP hB2 hz2); clear hP hB2 hz2; have c4 := (S2.out.get 0 _ rfl).cell 4 _ rfl))
          go_roundw
          case rel => exact ⟨k + 1, by omega, by go_num, S2.out.cut 0, Lib.hid (fun j o' hj ho' => by
            by_cases e : j = k
            · subst e
              have := HK.out
              rw [ho'] at this
              injection this with this
              subst this
              have := HSZ.out
              omega
            · exact HG.out j o' (by omega) ho')⟩
          case measure => simp [intOf]; omega
      · obtain rfl : k = n := by omega
        go_wp2_with fail
        go_ret
        refine ⟨false, rfl, fun _ => ⟨by have := HL.out; omega, fun o ho => ?_⟩, S.out.bel⟩
        obtain ⟨j, hj, he⟩ := List.getElem_of_mem ho
        exact HG.out j o (by have := HL.out; omega) (by rw [List.getElem?_eq_getElem hj, he])
end Go.Proofs.YtncmihikpcdgoaaGreat
