/-
  Plain mathematics of a journal: writes that are flushed, what a crash leaves of them, heads that are torn. Nothing of the program is in it.
-/
import Derived.Test.YtlamllnflbdcjaaDmath
import Derived.Test.YtlamllnflbdcjaaHmath
import Derived.Test.YtlamllnflbdcjaaMath
namespace Go.Proofs.Ytlamllnflbdcjaa.Jn

/-- a change: a page's number, and what it shall be -/
structure Chg where
  no : Int
  page : List UInt8

/-! ### writes, and a flush behind them -/
def runW : Dk.St → List Chg → Dk.St × Int
  | s, [] => (Dk.flush s, Dk.flushE s)
  | s, c :: r => if Dk.writeE s c.no = 0 then runW (Dk.write s c.no c.page) r else (Dk.write s c.no c.page, Dk.writeE s c.no)
def runs : Dk.St → List (List Chg) → Dk.St × Int
  | s, [] => (s, 0)
  | s, l :: r => if (runW s l).2 = 0 then runs (runW s l).1 r else runW s l
def upd (L : List (List UInt8)) (cs : List Chg) : List (List UInt8) := cs.foldl (fun L c => L.set c.no.toNat c.page) L
def updAll (L : List (List UInt8)) (ls : List (List Chg)) : List (List UInt8) := ls.foldl upd L
def cupd (C : List (Option (List UInt8))) (cs : List Chg) : List (Option (List UInt8)) := cs.foldl (fun C c => C.set c.no.toNat (some c.page)) C
def Val (n : Nat) (cs : List Chg) : Prop := ∀ c ∈ cs, Dk.hasB n c.no = true ∧ c.page.length = 64
/-- nothing in the cache, not down -/
structure Cl (s : Dk.St) : Prop where
  ok : s.Ok
  up : s.down = false
  clean : s.cache = List.replicate s.last.length none

theorem upd_length (cs : List Chg) : ∀ L, (upd L cs).length = L.length := by
  induction cs with
  | nil => intro L; rfl
  | cons c r ih => intro L; show (upd (L.set _ _) r).length = _; rw [ih, List.length_set]
theorem cupd_length (cs : List Chg) : ∀ C, (cupd C cs).length = C.length := by
  induction cs with
  | nil => intro C; rfl
  | cons c r ih => intro C; show (cupd (C.set _ _) r).length = _; rw [ih, List.length_set]
theorem updAll_length (ls : List (List Chg)) : ∀ L, (updAll L ls).length = L.length := by
  induction ls with
  | nil => intro L; rfl
  | cons c r ih => intro L; show (updAll (upd L c) r).length = _; rw [ih, upd_length]
theorem val_nat {n : Nat} {cs : List Chg} (h : Val n cs) {c : Chg} (hc : c ∈ cs) : c.no.toNat < n ∧ c.no = (c.no.toNat : Int) := by
  have := Dk.has_yes (h c hc).1
  omega

/-- all that is there now -/
def nows (s : Dk.St) : List (List UInt8) := (List.range s.last.length).map (Dk.nowAt s)
theorem nows_length (s : Dk.St) : (nows s).length = s.last.length := by unfold nows; simp
theorem nows_at (s : Dk.St) (i : Nat) (hi : i < s.last.length) : (nows s)[i]? = some (Dk.nowAt s i) := by
  unfold nows
  rw [List.getElem?_map, List.getElem?_range hi]; rfl
theorem nows_put (s : Dk.St) (h : s.cache.length = s.last.length) (i : Nat) (p : List UInt8) : nows (Dk.put s i p) = (nows s).set i p := by
  apply List.ext_getElem?
  intro j
  have hl : (Dk.put s i p).last = s.last := rfl
  rw [List.getElem?_set, nows_length]
  by_cases hj : j < s.last.length
  · rw [nows_at _ _ (by rw [hl]; exact hj)]
    by_cases e : i = j
    · subst e
      rw [if_pos rfl, if_pos hj]
      congr 1
      unfold Dk.nowAt Dk.cacheAt Dk.put
      rw [List.getD_eq_getElem?_getD]
      simp only
      rw [List.getElem?_set_self (by omega)]; rfl
    · rw [if_neg e, nows_at _ _ hj]
      congr 1
      unfold Dk.nowAt Dk.cacheAt Dk.lastAt Dk.put
      simp only [List.getD_eq_getElem?_getD]
      rw [List.getElem?_set_ne e]
  · rw [List.getElem?_eq_none (by rw [nows_length, hl]; omega)]
    by_cases e : i = j
    · rw [if_pos e, if_neg (by omega)]
    · rw [if_neg e, List.getElem?_eq_none (by rw [nows_length]; omega)]
theorem nows_spend (s : Dk.St) : nows (Dk.spend s) = nows s := by
  unfold nows
  rw [Dk.spend_last]
  congr 1
  funext i
  unfold Dk.nowAt Dk.cacheAt Dk.lastAt
  rw [Dk.spend_last, Dk.spend_cache]
theorem nows_clean {s : Dk.St} (h : s.cache = List.replicate s.last.length none) : nows s = s.last := by
  apply List.ext_getElem?
  intro j
  by_cases hj : j < s.last.length
  · rw [nows_at _ _ hj]
    unfold Dk.nowAt Dk.cacheAt Dk.lastAt
    rw [h]
    simp only [List.getD_eq_getElem?_getD]
    rw [List.getElem?_replicate, if_pos hj, List.getElem?_eq_getElem hj]; rfl
  · rw [List.getElem?_eq_none (by rw [nows_length]; omega), List.getElem?_eq_none (by omega)]
theorem spend_fine {s : Dk.St} (h : Dk.spendE s = 0) : (Dk.spend s).down = s.down := by
  unfold Dk.spendE at h
  unfold Dk.spend
  by_cases c : s.lim = true
  · rw [if_pos c]
    by_cases e : s.left = 0
    · rw [if_pos ⟨c, e⟩] at h; omega
    · rw [if_neg e]
  · rw [if_neg c]
theorem spend_broke {s : Dk.St} (h : Dk.spendE s ≠ 0) : s.lim = true ∧ Dk.spend s = { s with down := true } ∧ Dk.spendE s = 5 := by
  have h5 : Dk.spendE s = 5 := by rcases Dk.spend_vals s with e | e; exact absurd e h; exact e
  unfold Dk.spendE at h
  by_cases c : s.lim = true ∧ s.left = 0
  · refine ⟨c.1, ?_, h5⟩
    unfold Dk.spend
    rw [if_pos c.1, if_pos c.2]
  · rw [if_neg c] at h; exact absurd rfl h

theorem runW_spec (cs : List Chg) : ∀ (s : Dk.St), s.Ok → s.down = false → Val s.last.length cs →
    ((runW s cs).2 = 0 ∧ Cl (runW s cs).1 ∧ (runW s cs).1.lim = s.lim ∧ (runW s cs).1.last = upd (nows s) cs) ∨
    ((runW s cs).2 = 5 ∧ s.lim = true ∧ (runW s cs).1.Ok ∧ (runW s cs).1.down = true ∧ (runW s cs).1.last = s.last ∧ ∃ k, (runW s cs).1.cache = cupd s.cache (cs.take k)) := by
  induction cs with
  | nil =>
    intro s hok hup _
    unfold runW Dk.flush Dk.flushE
    rw [hup]
    by_cases h : Dk.spendE s = 0
    · left
      simp only [Bool.false_eq_true, if_false, h, if_true]
      refine ⟨trivial, ⟨Dk.flushed_ok (Dk.spend_ok hok), ?_, ?_⟩, ?_, ?_⟩
      · show (Dk.spend s).down = false
        rw [spend_fine h]; exact hup
      · unfold Dk.flushed
        simp
      · show (Dk.spend s).lim = s.lim
        exact Dk.spend_lim s
      · show nows (Dk.spend s) = upd (nows s) []
        rw [nows_spend]; rfl
    · right
      simp only [Bool.false_eq_true, if_false, h]
      obtain ⟨h1, h2, h3⟩ := spend_broke h
      refine ⟨h3, h1, Dk.spend_ok hok, ?_, Dk.spend_last s, 0, Dk.spend_cache s⟩
      rw [h2]
  | cons c r ih =>
    intro s hok hup hv
    have hc := hv c (by simp)
    have hr : Dk.reachE s c.no = 0 := Dk.reach_mk hup hc.1
    have hw : Dk.writeE s c.no = Dk.spendE s := by unfold Dk.writeE; rw [if_pos hr]
    unfold runW
    rw [hw]
    by_cases h : Dk.spendE s = 0
    · rw [if_pos h]
      have he : Dk.write s c.no c.page = Dk.put (Dk.spend s) c.no.toNat c.page := by unfold Dk.write; rw [if_pos hr, if_pos h]
      have hl : (Dk.put (Dk.spend s) c.no.toNat c.page).last = s.last := Dk.spend_last s
      have hok' : (Dk.put (Dk.spend s) c.no.toNat c.page).Ok := Dk.put_ok (Dk.spend_ok hok) _ hc.2
      have hup' : (Dk.put (Dk.spend s) c.no.toNat c.page).down = false := by show (Dk.spend s).down = false; rw [spend_fine h]; exact hup
      rw [he]
      rcases ih _ hok' hup' (by rw [hl]; exact fun x hx => hv x (by simp [hx])) with ⟨a1, a2, a3, a4⟩ | ⟨a1, a2, a3, a4, a5, k, a6⟩
      · left
        refine ⟨a1, a2, a3.trans (Dk.spend_lim s), a4.trans ?_⟩
        rw [nows_put _ (Dk.spend_ok hok).same, nows_spend]; rfl
      · right
        refine ⟨a1, ?_, a3, a4, a5.trans hl, k + 1, ?_⟩
        · rw [← Dk.spend_lim s]; exact a2
        · rw [a6]
          show cupd ((Dk.spend s).cache.set _ _) _ = _
          rw [Dk.spend_cache]; rfl
    · rw [if_neg h]
      right
      obtain ⟨h1, h2, h3⟩ := spend_broke h
      have he : Dk.write s c.no c.page = Dk.spend s := by unfold Dk.write; rw [if_pos hr, if_neg h]
      refine ⟨h3, h1, ?_, ?_, ?_, 0, ?_⟩
      · rw [he]; exact Dk.spend_ok hok
      · rw [he, h2]
      · rw [he]; exact Dk.spend_last s
      · rw [he]; exact Dk.spend_cache s

/-! ### crashes -/
theorem crashTo_at (s : Dk.St) (keep : List UInt8) : ∀ k i, (Dk.crashTo s keep k).1.getD i [] = Dk.lastAt s i ∨ ∃ p b, Dk.cacheAt s i = some p ∧ (Dk.crashTo s keep k).1.getD i [] = Dk.torn (Dk.lastAt s i) p b
  | 0, i => Or.inl rfl
  | k + 1, i => by
    rw [Dk.crashTo]
    rcases Dk.crashOne_cases s k (Dk.crashTo s keep k) with e | ⟨p, c, r, hp, _, e⟩
    · rw [e]; exact crashTo_at s keep k i
    · rw [e]
      by_cases hki : k = i
      · subst hki
        simp only [List.getD_eq_getElem?_getD]
        rw [List.getElem?_set]
        rw [if_pos rfl]
        by_cases hl : k < (Dk.crashTo s keep k).1.length
        · rw [if_pos hl]
          exact Or.inr ⟨p, c, hp, rfl⟩
        · rw [if_neg hl]
          rw [Dk.crashTo_len] at hl
          left
          unfold Dk.lastAt
          rw [List.getD_eq_getElem?_getD, List.getElem?_eq_none (l := s.last) (by omega)]
      · simp only [List.getD_eq_getElem?_getD]
        rw [List.getElem?_set_ne hki, ← List.getD_eq_getElem?_getD]
        exact crashTo_at s keep k i
theorem getD_ext {α : Type} (d : α) {a b : List α} (hl : a.length = b.length) (h : ∀ i, i < a.length → a.getD i d = b.getD i d) : a = b := by
  apply List.ext_getElem hl
  intro i h1 h2
  have := h i h1
  rw [List.getD_eq_getElem?_getD, List.getD_eq_getElem?_getD, List.getElem?_eq_getElem h1, List.getElem?_eq_getElem h2] at this
  exact this
theorem cacheAt_none {s : Dk.St} (h : s.cache = List.replicate s.last.length none) (i : Nat) : Dk.cacheAt s i = none := by
  unfold Dk.cacheAt
  rw [h, List.getD_eq_getElem?_getD, List.getElem?_replicate]
  split <;> rfl
theorem crash_clean {s : Dk.St} (h : Cl s) (keep : List UInt8) : (Dk.crash s keep).last = s.last := by
  refine getD_ext [] (Dk.crash_len s keep) (fun i _ => ?_)
  rcases crashTo_at s keep s.last.length i with e | ⟨p, b, hp, _⟩
  · exact e
  · rw [cacheAt_none h.clean] at hp; cases hp
theorem crash_cl {s : Dk.St} (h : s.Ok) (keep : List UInt8) : Cl (Dk.crash s keep) :=
  ⟨Dk.crash_ok h keep, rfl, by rw [Dk.crash_len]; rfl⟩
theorem fuse_cl {s : Dk.St} (h : Cl s) (k : Int) (h1 : -9223372036854775808 ≤ k) (h2 : k ≤ 9223372036854775807) : Cl (Dk.fuse s k) := ⟨Dk.fuse_ok h.ok k h1 h2, h.up, h.clean⟩
theorem cupd_mem (cs : List Chg) : ∀ (C : List (Option (List UInt8))) (i : Nat) (p : List UInt8), (cupd C cs).getD i none = some p → C.getD i none = some p ∨ ∃ c ∈ cs, c.no.toNat = i ∧ c.page = p := by
  induction cs with
  | nil => intro C i p h; exact Or.inl h
  | cons c r ih =>
    intro C i p h
    rcases ih (C.set c.no.toNat (some c.page)) i p h with e | ⟨x, hx, e⟩
    · by_cases hci : c.no.toNat = i
      · rw [List.getD_eq_getElem?_getD, List.getElem?_set, if_pos hci] at e
        by_cases hl : c.no.toNat < C.length
        · rw [if_pos hl] at e
          exact Or.inr ⟨c, by simp, hci, by simpa using e⟩
        · rw [if_neg hl] at e; cases e
      · rw [List.getD_eq_getElem?_getD, List.getElem?_set_ne hci, ← List.getD_eq_getElem?_getD] at e
        exact Or.inl e
    · exact Or.inr ⟨x, by simp [hx], e⟩
/-- of the pages that were written a beginning may be there -/
structure Trn (L : List (List UInt8)) (cs : List Chg) (L' : List (List UInt8)) : Prop where
  len : L'.length = L.length
  pages : ∀ p ∈ L', p.length = 64
  each : ∀ i, L'.getD i [] = L.getD i [] ∨ ∃ c ∈ cs, c.no.toNat = i ∧ ∃ b, L'.getD i [] = Dk.torn (L.getD i []) c.page b
theorem Trn.other {L : List (List UInt8)} {cs : List Chg} {L' : List (List UInt8)} (h : Trn L cs L') {i : Nat} (hi : ∀ c ∈ cs, c.no.toNat ≠ i) : L'.getD i [] = L.getD i [] := by
  rcases h.each i with e | ⟨c, hc, e, _⟩
  · exact e
  · exact absurd e (hi c hc)
theorem Trn.one {L : List (List UInt8)} {x : Chg} {L' : List (List UInt8)} (h : Trn L [x] L') : L'.getD x.no.toNat [] = L.getD x.no.toNat [] ∨ ∃ b, L'.getD x.no.toNat [] = Dk.torn (L.getD x.no.toNat []) x.page b := by
  rcases h.each x.no.toNat with e | ⟨c, hc, _, b, e⟩
  · exact Or.inl e
  · rw [List.mem_singleton] at hc
    subst hc
    exact Or.inr ⟨b, e⟩
theorem runs_spec (ls : List (List Chg)) : ∀ (s : Dk.St), Cl s → (∀ l ∈ ls, Val s.last.length l) →
    ((runs s ls).2 = 0 ∧ Cl (runs s ls).1 ∧ (runs s ls).1.lim = s.lim ∧ (runs s ls).1.last = updAll s.last ls) ∨
    ((runs s ls).2 = 5 ∧ s.lim = true ∧ (runs s ls).1.Ok ∧ ∃ j, j < ls.length ∧ ∀ keep, Trn (updAll s.last (ls.take j)) (ls.getD j []) (Dk.crash (runs s ls).1 keep).last) := by
  induction ls with
  | nil => intro s h _; exact Or.inl ⟨rfl, h, rfl, rfl⟩
  | cons l r ih =>
    intro s h hv
    unfold runs
    rcases runW_spec l s h.ok h.up (hv l (by simp)) with ⟨a1, a2, a3, a4⟩ | ⟨a1, a2, a3, a4, a5, k, a6⟩
    · rw [if_pos a1]
      rw [nows_clean h.clean] at a4
      have hlen : (runW s l).1.last.length = s.last.length := by rw [a4, upd_length]
      rcases ih _ a2 (by rw [hlen]; exact fun x hx => hv x (by simp [hx])) with ⟨b1, b2, b3, b4⟩ | ⟨b1, b2, b3, j, hj, b4⟩
      · left
        exact ⟨b1, b2, b3.trans a3, by rw [b4, a4]; rfl⟩
      · right
        refine ⟨b1, by rw [← a3]; exact b2, b3, j + 1, by simpa using hj, fun keep => ?_⟩
        have := b4 keep
        rw [a4] at this
        exact this
    · rw [if_neg (by omega)]
      right
      refine ⟨a1, a2, a3, 0, by simp, fun keep => ⟨?_, Dk.crashTo_pages a3 keep _ (Nat.le_refl _), fun i => ?_⟩⟩
      · rw [Dk.crash_len, a5]; rfl
      · have e0 : Dk.lastAt (runW s l).1 i = s.last.getD i [] := by unfold Dk.lastAt; rw [a5]
        show (Dk.crashTo _ keep _).1.getD i [] = s.last.getD i [] ∨ ∃ c ∈ l, _
        rcases crashTo_at (runW s l).1 keep (runW s l).1.last.length i with e | ⟨p, b, hp, e⟩
        · left; rw [e, e0]
        · right
          unfold Dk.cacheAt at hp
          rw [a6] at hp
          rcases cupd_mem _ _ _ _ hp with q | ⟨c, hc, hci, hcp⟩
          · have := cacheAt_none h.clean i
            unfold Dk.cacheAt at this
            rw [this] at q; cases q
          · refine ⟨c, List.mem_of_mem_take hc, hci, b, ?_⟩
            exact e.trans (by rw [e0, hcp]; rfl)
end Go.Proofs.Ytlamllnflbdcjaa.Jn
