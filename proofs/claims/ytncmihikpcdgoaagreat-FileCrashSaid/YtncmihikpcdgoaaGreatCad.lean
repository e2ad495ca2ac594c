/- Texts of the proof. -/
import Derived.Test.YtncmihikpcdgoaaGreatCaa
import Derived.Test.YtncmihikpcdgoaaGreatCac
import Derived.Laws.IdiomStrings
set_option maxRecDepth 100000
set_option maxHeartbeats 16000000
namespace Go.Proofs.YtncmihikpcdgoaaGreat
namespace Jn
structure Chg where
  no : Int
  page : List UInt8
def runW : Dk.St → List Chg → Dk.St × Int
  | s, [] => (Dk.flush s, Dk.flushE s)
  | s, c :: r => if Dk.writeE s c.no = 0 then runW (Dk.write s c.no c.page) r else (Dk.write s c.no c.page, Dk.writeE s c.no)
def runs : Dk.St → List (List Chg) → Dk.St × Int
  | s, [] => (s, 0)
  | s, l :: r => if (runW s l).2 = 0 then runs (runW s l).1 r else runW s l
def upd (L : List (List UInt8)) (cs : List Chg) : List (List UInt8) := cs.foldl (fun L c => L.set c.no.toNat c.page) L
def updAll (L : List (List UInt8)) (ls : List (List Chg)) : List (List UInt8) := ls.foldl upd L
def cupd (C : List (Option (List UInt8))) (cs : List Chg) : List (Option (List UInt8)) := cs.foldl (fun C c => C.set c.no.toNat (some c.page)) C
def Val (n : Nat) (cs : List Chg) : Prop := ∀ c ∈ cs, Dk.hasB n c.no = true ∧ c.page.length = 64
structure Cl (s : Dk.St) : Prop where
  ok : s.Ok
  up : s.down = false
  clean : s.cache = List.replicate s.last.length none
theorem upd_length (cs : List Chg) : ∀ L, (upd L cs).length = L.length := by
  induction cs with
  | nil => intro L; rfl
  | cons c r ih => intro L; show (upd (L.set _ _) r).length = _; rw [ih, List.length_set]
theorem updAll_length (ls : List (List Chg)) : ∀ L, (updAll L ls).length = L.length := by
  induction ls with
  | nil => intro L; rfl
  | cons c r ih => intro L; show (updAll (upd L c) r).length = _; rw [ih, upd_length]
def nows (s : Dk.St) : List (List UInt8) := (List.range s.last.length).map (Dk.nowAt s)
theorem nows_length (s : Dk.St) : (nows s).length = s.last.length := by unfold nows; simp
theorem nows_at (s : Dk.St) (i : Nat) (hi : i < s.last.length) : (nows s)[i]? = some (Dk.nowAt s i) := by
  unfold nows
  rw [List.getElem?_map, List.getElem?_range hi]; rfl
theorem nows_put (s : Dk.St) (h : s.cache.length = s.last.length) (i : Nat) (p : List UInt8) : nows (Dk.put s i p) = (nows s).set i p := by
  apply List.ext_getElem?
  intro j
  have hl : (Dk.put s i p).last = s.last := rfl
  rw [List.getElem?_set, nows_length]
  by_cases hj : j < s.last.length
  · rw [nows_at _ _ (by rw [hl]; exact hj)]
    by_cases e : i = j
    · subst e
      rw [if_pos rfl, if_pos hj]
      congr 1
      unfold Dk.nowAt Dk.cacheAt Dk.put
      rw [List.getD_eq_getElem?_getD]
      simp only
      rw [List.getElem?_set_self (by omega)]; rfl
    · rw [if_neg e, nows_at _ _ hj]
      congr 1
      unfold Dk.nowAt Dk.cacheAt Dk.lastAt Dk.put
      simp only [List.getD_eq_getElem?_getD]
      rw [List.getElem?_set_ne e]
  · rw [List.getElem?_eq_none (by rw [nows_length, hl]; omega)]
    by_cases e : i = j
    · rw [if_pos e, if_neg (by omega)]
    · rw [if_neg e, List.getElem?_eq_none (by rw [nows_length]; omega)]
theorem nows_spend (s : Dk.St) : nows (Dk.spend s) = nows s := by
  unfold nows
  rw [Dk.spend_last]
  congr 1
  funext i
  unfold Dk.nowAt Dk.cacheAt Dk.lastAt
  rw [Dk.spend_last, Dk.spend_cache]
theorem nows_clean {s : Dk.St} (h : s.cache = List.replicate s.last.length none) : nows s = s.last := by
  apply List.ext_getElem?
  intro j
  by_cases hj : j < s.last.length
  · rw [nows_at _ _ hj]
    unfold Dk.nowAt Dk.cacheAt Dk.lastAt
    rw [h]
    simp only [List.getD_eq_getElem?_getD]
    rw [List.getElem?_replicate, if_pos hj, List.getElem?_eq_getElem hj]; rfl
  · rw [List.getElem?_eq_none (by rw [nows_length]; omega), List.getElem?_eq_none (by omega)]
theorem spend_fine {s : Dk.St} (h : Dk.spendE s = 0) : (Dk.spend s).down = s.down := by
  unfold Dk.spendE at h
  unfold Dk.spend
  by_cases c : s.lim = true
  · rw [if_pos c]
    by_cases e : s.left = 0
    · rw [if_pos ⟨c, e⟩] at h; omega
    · rw [if_neg e]
  · rw [if_neg c]
theorem spend_broke {s : Dk.St} (h : Dk.spendE s ≠ 0) : s.lim = true ∧ Dk.spend s = { s with down := true } ∧ Dk.spendE s = 5 := by
  have h5 : Dk.spendE s = 5 := by rcases Dk.spend_vals s with e | e; exact absurd e h; exact e
  unfold Dk.spendE at h
  by_cases c : s.lim = true ∧ s.left = 0
  · refine ⟨c.1, ?_, h5⟩
    unfold Dk.spend
    rw [if_pos c.1, if_pos c.2]
  · rw [if_neg c] at h; exact absurd rfl h
theorem runW_spec (cs : List Chg) : ∀ (s : Dk.St), s.Ok → s.down = false → Val s.last.length cs →
    ((runW s cs).2 = 0 ∧ Cl (runW s cs).1 ∧ (runW s cs).1.lim = s.lim ∧ (runW s cs).1.last = upd (nows s) cs) ∨
    ((runW s cs).2 = 5 ∧ s.lim = true ∧ (runW s cs).1.Ok ∧ (runW s cs).1.down = true ∧ (runW s cs).1.last = s.last ∧ ∃ k, (runW s cs).1.cache = cupd s.cache (cs.take k)) := by
  induction cs with
  | nil =>
    intro s hok hup _
    unfold runW Dk.flush Dk.flushE
    rw [hup]
    by_cases h : Dk.spendE s = 0
    · left
      simp only [Bool.false_eq_true, if_false, h, if_true]
      refine ⟨trivial, ⟨Dk.flushed_ok (Dk.spend_ok hok), ?_, ?_⟩, ?_, ?_⟩
      · show (Dk.spend s).down = false
        rw [spend_fine h]; exact hup
      · unfold Dk.flushed
        simp
      · show (Dk.spend s).lim = s.lim
        exact Dk.spend_lim s
      · show nows (Dk.spend s) = upd (nows s) []
        rw [nows_spend]; rfl
    · right
      simp only [Bool.false_eq_true, if_false, h]
      obtain ⟨h1, h2, h3⟩ := spend_broke h
      refine ⟨h3, h1, Dk.spend_ok hok, ?_, Dk.spend_last s, 0, Dk.spend_cache s⟩
      rw [h2]
  | cons c r ih =>
    intro s hok hup hv
    have hc := hv c (by simp)
    have hr : Dk.reachE s c.no = 0 := Dk.reach_mk hup hc.1
    have hw : Dk.writeE s c.no = Dk.spendE s := by unfold Dk.writeE; rw [if_pos hr]
    unfold runW
    rw [hw]
    by_cases h : Dk.spendE s = 0
    · rw [if_pos h]
      have he : Dk.write s c.no c.page = Dk.put (Dk.spend s) c.no.toNat c.page := by unfold Dk.write; rw [if_pos hr, if_pos h]
      have hl : (Dk.put (Dk.spend s) c.no.toNat c.page).last = s.last := Dk.spend_last s
      have hok' : (Dk.put (Dk.spend s) c.no.toNat c.page).Ok := Dk.put_ok (Dk.spend_ok hok) _ hc.2
      have hup' : (Dk.put (Dk.spend s) c.no.toNat c.page).down = false := by show (Dk.spend s).down = false; rw [spend_fine h]; exact hup
      rw [he]
      rcases ih _ hok' hup' (by rw [hl]; exact fun x hx => hv x (by simp [hx])) with ⟨a1, a2, a3, a4⟩ | ⟨a1, a2, a3, a4, a5, k, a6⟩
      · left
        refine ⟨a1, a2, a3.trans (Dk.spend_lim s), a4.trans ?_⟩
        rw [nows_put _ (Dk.spend_ok hok).same, nows_spend]; rfl
      · right
        refine ⟨a1, ?_, a3, a4, a5.trans hl, k + 1, ?_⟩
        · rw [← Dk.spend_lim s]; exact a2
        · rw [a6]
          show cupd ((Dk.spend s).cache.set _ _) _ = _
          rw [Dk.spend_cache]; rfl
    · rw [if_neg h]
      right
      obtain ⟨h1, h2, h3⟩ := spend_broke h
      have he : Dk.write s c.no c.page = Dk.spend s := by unfold Dk.write; rw [if_pos hr, if_neg h]
      refine ⟨h3, h1, ?_, ?_, ?_, 0, ?_⟩
      · rw [he]; exact Dk.spend_ok hok
      · rw [he, h2]
      · rw [he]; exact Dk.spend_last s
      · rw [he]; exact Dk.spend_cache s
theorem crashTo_at (s : Dk.St) (keep : List UInt8) : ∀ k i, (Dk.crashTo s keep k).1.getD i [] = Dk.lastAt s i ∨ ∃ p b, Dk.cacheAt s i = some p ∧ (Dk.crashTo s keep k).1.getD i [] = Dk.torn (Dk.lastAt s i) p b
  | 0, i => Or.inl rfl
  | k + 1, i => by
    rw [Dk.crashTo]
    rcases Dk.crashOne_cases s k (Dk.crashTo s keep k) with e | ⟨p, c, r, hp, _, e⟩
    · rw [e]; exact crashTo_at s keep k i
    · rw [e]
      by_cases hki : k = i
      · subst hki
        simp only [List.getD_eq_getElem?_getD]
        rw [List.getElem?_set]
        rw [if_pos rfl]
        by_cases hl : k < (Dk.crashTo s keep k).1.length
        · rw [if_pos hl]
          exact Or.inr ⟨p, c, hp, rfl⟩
        · rw [if_neg hl]
          rw [Dk.crashTo_len] at hl
          left
          unfold Dk.lastAt
          rw [List.getD_eq_getElem?_getD, List.getElem?_eq_none (l := s.last) (by omega)]
      · simp only [List.getD_eq_getElem?_getD]
        rw [List.getElem?_set_ne hki, ← List.getD_eq_getElem?_getD]
        exact crashTo_at s keep k i
theorem getD_ext {α : Type} (d : α) {a b : List α} (hl : a.length = b.length) (h : ∀ i, i < a.length → a.getD i d = b.getD i d) : a = b := by
  apply List.ext_getElem hl
  intro i h1 h2
  have := h i h1
  rw [List.getD_eq_getElem?_getD, List.getD_eq_getElem?_getD, List.getElem?_eq_getElem h1, List.getElem?_eq_getElem h2] at this
  exact this
theorem cacheAt_none {s : Dk.St} (h : s.cache = List.replicate s.last.length none) (i : Nat) : Dk.cacheAt s i = none := by
  unfold Dk.cacheAt
  rw [h, List.getD_eq_getElem?_getD, List.getElem?_replicate]
  split <;> rfl
theorem crash_clean {s : Dk.St} (h : Cl s) (keep : List UInt8) : (Dk.crash s keep).last = s.last := by
  refine getD_ext [] (Dk.crash_len s keep) (fun i _ => ?_)
  rcases crashTo_at s keep s.last.length i with e | ⟨p, b, hp, _⟩
  · exact e
  · rw [cacheAt_none h.clean] at hp; cases hp
theorem crash_cl {s : Dk.St} (h : s.Ok) (keep : List UInt8) : Cl (Dk.crash s keep) :=
  ⟨Dk.crash_ok h keep, rfl, by rw [Dk.crash_len]; rfl⟩
theorem fuse_cl {s : Dk.St} (h : Cl s) (k : Int) (h1 : -9223372036854775808 ≤ k) (h2 : k ≤ 9223372036854775807) : Cl (Dk.fuse s k) := ⟨Dk.fuse_ok h.ok k h1 h2, h.up, h.clean⟩
theorem cupd_mem (cs : List Chg) : ∀ (C : List (Option (List UInt8))) (i : Nat) (p : List UInt8), (cupd C cs).getD i none = some p → C.getD i none = some p ∨ ∃ c ∈ cs, c.no.toNat = i ∧ c.page = p := by
  induction cs with
  | nil => intro C i p h; exact Or.inl h
  | cons c r ih =>
    intro C i p h
    rcases ih (C.set c.no.toNat (some c.page)) i p h with e | ⟨x, hx, e⟩
    · by_cases hci : c.no.toNat = i
      · rw [List.getD_eq_getElem?_getD, List.getElem?_set, if_pos hci] at e
        by_cases hl : c.no.toNat < C.length
        · rw [if_pos hl] at e
          exact Or.inr ⟨c, by simp, hci, by simpa using e⟩
        · rw [if_neg hl] at e; cases e
      · rw [List.getD_eq_getElem?_getD, List.getElem?_set_ne hci, ← List.getD_eq_getElem?_getD] at e
        exact Or.inl e
    · exact Or.inr ⟨x, by simp [hx], e⟩
structure Trn (L : List (List UInt8)) (cs : List Chg) (L' : List (List UInt8)) : Prop where
  len : L'.length = L.length
  pages : ∀ p ∈ L', p.length = 64
  each : ∀ i, L'.getD i [] = L.getD i [] ∨ ∃ c ∈ cs, c.no.toNat = i ∧ ∃ b, L'.getD i [] = Dk.torn (L.getD i []) c.page b
theorem Trn.other {L : List (List UInt8)} {cs : List Chg} {L' : List (List UInt8)} (h : Trn L cs L') {i : Nat} (hi : ∀ c ∈ cs, c.no.toNat ≠ i) : L'.getD i [] = L.getD i [] := by
  rcases h.each i with e | ⟨c, hc, e, _⟩
  · exact e
  · exact absurd e (hi c hc)
theorem Trn.one {L : List (List UInt8)} {x : Chg} {L' : List (List UInt8)} (h : Trn L [x] L') : L'.getD x.no.toNat [] = L.getD x.no.toNat [] ∨ ∃ b, L'.getD x.no.toNat [] = Dk.torn (L.getD x.no.toNat []) x.page b := by
  rcases h.each x.no.toNat with e | ⟨c, hc, _, b, e⟩
  · exact Or.inl e
  · rw [List.mem_singleton] at hc
    subst hc
    exact Or.inr ⟨b, e⟩
theorem runs_spec (ls : List (List Chg)) : ∀ (s : Dk.St), Cl s → (∀ l ∈ ls, Val s.last.length l) →
    ((runs s ls).2 = 0 ∧ Cl (runs s ls).1 ∧ (runs s ls).1.lim = s.lim ∧ (runs s ls).1.last = updAll s.last ls) ∨
    ((runs s ls).2 = 5 ∧ s.lim = true ∧ (runs s ls).1.Ok ∧ ∃ j, j < ls.length ∧ ∀ keep, Trn (updAll s.last (ls.take j)) (ls.getD j []) (Dk.crash (runs s ls).1 keep).last) := by
  induction ls with
  | nil => intro s h _; exact Or.inl ⟨rfl, h, rfl, rfl⟩
  | cons l r ih =>
    intro s h hv
    unfold runs
    rcases runW_spec l s h.ok h.up (hv l (by simp)) with ⟨a1, a2, a3, a4⟩ | ⟨a1, a2, a3, a4, a5, k, a6⟩
    · rw [if_pos a1]
      rw [nows_clean h.clean] at a4
      have hlen : (runW s l).1.last.length = s.last.length := by rw [a4, upd_length]
      rcases ih _ a2 (by rw [hlen]; exact fun x hx => hv x (by simp [hx])) with ⟨b1, b2, b3, b4⟩ | ⟨b1, b2, b3, j, hj, b4⟩
      · left
        exact ⟨b1, b2, b3.trans a3, by rw [b4, a4]; rfl⟩
      · right
        refine ⟨b1, by rw [← a3]; exact b2, b3, j + 1, by simpa using hj, fun keep => ?_⟩
        have := b4 keep
        rw [a4] at this
        exact this
    · rw [if_neg (by omega)]
      right
      refine ⟨a1, a2, a3, 0, by simp, fun keep => ⟨?_, Dk.crashTo_pages a3 keep _ (Nat.le_refl _), fun i => ?_⟩⟩
      · rw [Dk.crash_len, a5]; rfl
      · have e0 : Dk.lastAt (runW s l).1 i = s.last.getD i [] := by unfold Dk.lastAt; rw [a5]
        show (Dk.crashTo _ keep _).1.getD i [] = s.last.getD i [] ∨ ∃ c ∈ l, _
        rcases crashTo_at (runW s l).1 keep (runW s l).1.last.length i with e | ⟨p, b, hp, e⟩
        · left; rw [e, e0]
        · right
          unfold Dk.cacheAt at hp
          rw [a6] at hp
          rcases cupd_mem _ _ _ _ hp with q | ⟨c, hc, hci, hcp⟩
          · have := cacheAt_none h.clean i
            unfold Dk.cacheAt at this
            rw [this] at q; cases q
          · refine ⟨c, List.mem_of_mem_take hc, hci, b, ?_⟩
            exact e.trans (by rw [e0, hcp]; rfl)
end Jn

namespace Jn
open Go.Proofs.YtncmihikpcdgoaaGreat.Pg (getN setN numOf bytesN)
open Go.Proofs.YtncmihikpcdgoaaGreat.Hd (Head pageH readH wholeB rightB nextN)
theorem four (a : List UInt8) (h : a.length = 4) : ∃ x0 x1 x2 x3, a = [x0, x1, x2, x3] := by
  match a, h with
  | [x0, x1, x2, x3], _ => exact ⟨_, _, _, _, rfl⟩
theorem zero8 {x : UInt8} (h : x.toNat = 0) : x = 0 := UInt8.toNat_inj.1 h
theorem small_lead (a : List UInt8) (hl : a.length = 4) (h : numOf a < 256) : ∃ x, a = [0, 0, 0, x] := by
  obtain ⟨x0, x1, x2, x3, rfl⟩ := four a hl
  have e : numOf [x0, x1, x2, x3] = (((0 * 256 + (x0.toNat : Int)) * 256 + (x1.toNat : Int)) * 256 + (x2.toNat : Int)) * 256 + (x3.toNat : Int) := rfl
  rw [e] at h
  have e0 : x0 = 0 := zero8 (by omega)
  have e1 : x1 = 0 := zero8 (by omega)
  have e2 : x2 = 0 := zero8 (by omega)
  exact ⟨x3, by rw [e0, e1, e2]⟩
theorem get_front (p : List UInt8) : getN p 0 4 = numOf (p.take 4) := by
  unfold getN; rw [if_pos (by decide)]; rfl
theorem get_back (p : List UInt8) (hp : p.length = 64) : getN p 60 4 = numOf (p.drop 60) := by
  unfold getN; rw [if_pos (by decide)]
  show numOf ((p.drop 60).take 4) = _
  rw [List.take_of_length_le (by simp; omega)]
theorem num4 (x : Int) (h0 : 0 ≤ x) (h1 : x < 4294967296) : numOf (bytesN 4 x) = x := by
  rw [Pg.numOf_bytesN]
  have e : (256 : Int) ^ 4 = 4294967296 := rfl
  rw [e]; omega
theorem page_front (h : Head) (h0 : 0 ≤ h.seq) (h1 : h.seq < 4294967296) : getN (pageH h) 0 4 = h.seq := by
  rw [get_front, Hd.page_ends.1, num4 _ h0 h1]
theorem page_back (h : Head) (h0 : 0 ≤ h.seq) (h1 : h.seq < 4294967296) : getN (pageH h) 60 4 = h.seq := by
  rw [get_back _ (Hd.pageH_length h), Hd.page_ends.2, num4 _ h0 h1]
theorem take_lead (x y : UInt8) (k : Nat) (hk : k ≤ 3) : [0, 0, 0, x].take k = ([0, 0, 0, y] : List UInt8).take k := by
  have : k = 0 ∨ k = 1 ∨ k = 2 ∨ k = 3 := by omega
  rcases this with rfl | rfl | rfl | rfl <;> rfl
theorem torn_head (P : List UInt8) (h : Head) (hP : P.length = 64) (hf : getN P 0 4 < 256) (hb : getN P 60 4 < 256) (h0 : 0 ≤ h.seq) (h1 : h.seq < 256) (c : UInt8) :
    Dk.torn P (pageH h) c = P ∨ Dk.torn P (pageH h) c = pageH h ∨ (getN (Dk.torn P (pageH h) c) 0 4 = h.seq ∧ getN (Dk.torn P (pageH h) c) 60 4 = getN P 60 4) := by
  have hN := Hd.pageH_length h
  have hT := Dk.torn_len c hP hN
  obtain ⟨n1, n2⟩ := Hd.page_ends (h := h)
  obtain ⟨x, hx⟩ := small_lead (bytesN 4 h.seq) (Pg.bytesN_length 4 _) (by rw [num4 _ h0 (by omega)]; exact h1)
  rw [get_front] at hf
  rw [get_back _ hP] at hb
  obtain ⟨y, hy⟩ := small_lead (P.take 4) (by simp; omega) hf
  obtain ⟨z, hz⟩ := small_lead (P.drop 60) (by simp; omega) hb
  have hk : c.toNat % 65 < 65 := Nat.mod_lt _ (by omega)
  rw [get_front (Dk.torn P (pageH h) c), get_back _ hT, get_back _ hP]
  unfold Dk.torn
  generalize hNN : pageH h = N at *
  generalize c.toNat % 65 = k at *
  by_cases k3 : k ≤ 3
  · left
    have e : N.take k = P.take k := by
      have e1 : N.take k = (N.take 4).take k := by rw [List.take_take]; congr 1; omega
      have e2 : P.take k = (P.take 4).take k := by rw [List.take_take]; congr 1; omega
      rw [e1, e2, n1, hx, hy]; exact take_lead x y k k3
    rw [e, List.take_append_drop]
  · by_cases k64 : k = 64
    · right; left
      rw [k64, List.take_of_length_le (by omega), List.drop_of_length_le (by omega), List.append_nil]
    · right; right
      constructor
      · rw [List.take_append_of_le_length (by simp; omega), List.take_take, show min 4 k = 4 by omega, n1, num4 _ h0 (by omega)]
      · congr 1
        rw [List.drop_append, List.drop_take, n2, hx]
        by_cases k60 : k ≤ 60
        · rw [show k - 60 = 0 by omega, List.take_zero, List.nil_append, List.drop_drop]
          congr 1
          simp
          omega
        · rw [List.drop_drop, show k + (60 - (N.take k).length) = 60 + (k - 60) by simp; omega, ← List.drop_drop, hz, take_lead x z (k - 60) (by omega), List.take_append_drop]
def QuietP (p : List UInt8) : Prop := ¬ (wholeB p = true ∧ (readH p).live = true)
structure Low (B : Int) (p : List UInt8) : Prop where
  len : p.length = 64
  f : getN p 0 4 ≤ B
  b : getN p 60 4 ≤ B
def quietH (m : Int) : Head := ⟨m, false, 0, 0⟩
theorem quietH_right {m : Int} (h0 : 0 ≤ m) (h1 : m < 4294967296) : rightB (quietH m) = true := decide_eq_true ⟨h0, h1, (fun h => by cases h), (fun _ => ⟨rfl, rfl⟩)⟩
theorem quietH_quiet {m : Int} (h0 : 0 ≤ m) (h1 : m < 4294967296) : QuietP (pageH (quietH m)) := by
  rintro ⟨_, h⟩
  rw [Hd.read_page _ (quietH_right h0 h1) (Int.le_refl 0) (show (0 : Int) < 4294967296 by omega)] at h
  cases h
theorem mixed_quiet {p : List UInt8} (hp : p.length = 64) (h : getN p 0 4 ≠ getN p 60 4) : QuietP p := by
  rintro ⟨hw, _⟩
  exact h ((Hd.whole_iff p hp).1 hw).1
theorem page_low {h : Head} {B : Int} (h0 : 0 ≤ h.seq) (h1 : h.seq < 4294967296) (hB : h.seq ≤ B) : Low B (pageH h) :=
  ⟨Hd.pageH_length h, by rw [page_front h h0 h1]; exact hB, by rw [page_back h h0 h1]; exact hB⟩
theorem Low.mono {B B' : Int} {p : List UInt8} (h : Low B p) (hB : B ≤ B') : Low B' p := ⟨h.len, by have := h.f; omega, by have := h.b; omega⟩
theorem torn_cases {B B' : Int} {P : List UInt8} {h : Head} (hP : Low B P) (hB : B ≤ B') (hB' : B' < 256) (h0 : 0 ≤ h.seq) (h1 : h.seq ≤ B') (hlt : getN P 60 4 < h.seq) (c : UInt8) :
    Low B' (Dk.torn P (pageH h) c) ∧ (Dk.torn P (pageH h) c = P ∨ Dk.torn P (pageH h) c = pageH h ∨ QuietP (Dk.torn P (pageH h) c)) := by
  have hT := Dk.torn_len c hP.len (Hd.pageH_length h)
  have hf := hP.f
  have hb := hP.b
  rcases torn_head P h hP.len (by omega) (by omega) h0 (by omega) c with e | e | ⟨e1, e2⟩
  · exact ⟨by rw [e]; exact hP.mono hB, Or.inl e⟩
  · exact ⟨by rw [e]; exact page_low h0 (by omega) h1, Or.inr (Or.inl e)⟩
  · exact ⟨⟨hT, by rw [e1]; exact h1, by rw [e2]; omega⟩, Or.inr (Or.inr (mixed_quiet hT (by rw [e1, e2]; omega)))⟩
def none' : Chg := ⟨0, []⟩
def nl (n : Nat) : Nat := (n + 31) / 32
def lp (cs : List Chg) (j : Nat) : Nat → List UInt8
  | 0 => Dk.zeros
  | k + 1 => if k / 32 = j then setN (lp cs j k) (((k % 32 : Nat) : Int) * 2) 2 (cs.getD k none').no else lp cs j k
def layN (cs : List Chg) : List (List UInt8) := ((List.range (nl cs.length)).map fun j => lp cs j cs.length) ++ cs.map (·.page)
def outN (ps : List (List UInt8)) (k : Nat) : List Chg := (List.range k).map fun (i : Nat) => ⟨getN (ps.getD (i / 32) []) (((i % 32 : Nat) : Int) * 2) 2, ps.getD (nl k + i) []⟩
def sumN (ps : List (List UInt8)) : Int := Mt.joinN (Mt.run (0, 0) ps.flatten)
theorem sumN_bd (ps : List (List UInt8)) : 0 ≤ sumN ps ∧ sumN ps < 4294967296 := Mt.join_bd _ (Mt.fit_run _ _ Mt.fit_zero)
theorem lp_length (cs : List Chg) (j : Nat) : ∀ k, (lp cs j k).length = 64
  | 0 => Dk.zeros_length
  | k + 1 => by
    rw [lp]
    split
    · exact Pg.setN_length _ _ _ _ (lp_length cs j k)
    · exact lp_length cs j k
theorem get_at (p : List UInt8) (a : Nat) (ha : a + 2 ≤ 64) : getN p (a : Int) 2 = numOf ((p.drop a).take 2) := by
  unfold getN; rw [if_pos (Pg.num_mk (by omega) (by omega) (by omega) (by omega)), Int.toNat_natCast]; rfl
theorem set_at (p : List UInt8) (a : Nat) (ha : a + 2 ≤ 64) (v : Int) : setN p (a : Int) 2 v = Pg.over p a (bytesN 2 v) := by
  unfold setN; rw [if_pos (Pg.num_mk (by omega) (by omega) (by omega) (by omega)), Int.toNat_natCast]; rfl
theorem get_set_same (p : List UInt8) (a : Nat) (hp : p.length = 64) (ha : a + 2 ≤ 64) (v : Int) (h0 : 0 ≤ v) (h1 : v < 65536) : getN (setN p (a : Int) 2 v) (a : Int) 2 = v := by
  rw [set_at _ _ ha, get_at _ _ ha]
  have := Pg.over_back p a (bytesN 2 v) (by rw [Pg.bytesN_length]; omega)
  rw [Pg.bytesN_length] at this
  rw [this, Pg.numOf_bytesN]
  have e : (256 : Int) ^ 2 = 65536 := rfl
  rw [e]; omega
theorem get_set_other (p : List UInt8) (a b : Nat) (hp : p.length = 64) (ha : a + 2 ≤ 64) (hb : b + 2 ≤ 64) (hab : a + 2 ≤ b ∨ b + 2 ≤ a) (v : Int) : getN (setN p (a : Int) 2 v) (b : Int) 2 = getN p (b : Int) 2 := by
  rw [set_at _ _ ha, get_at _ _ hb, get_at _ _ hb]
  congr 1
  apply List.ext_getElem?
  intro j
  rw [List.getElem?_take, List.getElem?_take]
  by_cases hj : j < 2
  · rw [if_pos hj, if_pos hj, List.getElem?_drop, List.getElem?_drop, Pg.over_at _ _ _ _ (by rw [Pg.bytesN_length]; omega), Pg.bytesN_length]
    by_cases h1 : b + j < a
    · rw [if_pos h1]
    · rw [if_neg h1, if_neg (by omega)]
  · rw [if_neg hj, if_neg hj]
theorem lp_get (cs : List Chg) (hv : ∀ c ∈ cs, 0 ≤ c.no ∧ c.no < 65536) : ∀ (k : Nat), k ≤ cs.length → ∀ i, i < k → getN (lp cs (i / 32) k) (((i % 32 : Nat) : Int) * 2) 2 = (cs.getD i none').no
  | 0, _, i, hi => by omega
  | k + 1, hk, i, hi => by
    have hm : cs.getD k none' ∈ cs := by
      rw [List.getD_eq_getElem?_getD, List.getElem?_eq_getElem (by omega)]; exact List.getElem_mem (by omega)
    have hb := hv _ hm
    have e1 : ((i % 32 : Nat) : Int) * 2 = ((i % 32 * 2 : Nat) : Int) := by omega
    have e2 : ((k % 32 : Nat) : Int) * 2 = ((k % 32 * 2 : Nat) : Int) := by omega
    have hi32 := Nat.mod_lt i (show 0 < 32 by omega)
    have hk32 := Nat.mod_lt k (show 0 < 32 by omega)
    rw [lp]
    by_cases e : i = k
    · subst e
      rw [if_pos rfl, e2, get_set_same _ _ (lp_length cs _ i) (by omega) _ hb.1 hb.2]
    · by_cases q : k / 32 = i / 32
      · rw [if_pos q, e2, e1, get_set_other _ _ _ (lp_length cs _ k) (by omega) (by omega) (by omega), ← e1]
        exact lp_get cs hv k (by omega) i (by omega)
      · rw [if_neg q]
        exact lp_get cs hv k (by omega) i (by omega)
theorem out_length (ps : List (List UInt8)) (k : Nat) : (outN ps k).length = k := by unfold outN; simp
theorem out_at (ps : List (List UInt8)) (k i : Nat) (hi : i < k) : (outN ps k)[i]? = some ⟨getN (ps.getD (i / 32) []) (((i % 32 : Nat) : Int) * 2) 2, ps.getD (nl k + i) []⟩ := by
  unfold outN
  rw [List.getElem?_map, List.getElem?_range hi]; rfl
theorem layN_length (cs : List Chg) : (layN cs).length = nl cs.length + cs.length := by unfold layN; simp
theorem layN_num (cs : List Chg) (j : Nat) (hj : j < nl cs.length) : (layN cs).getD j [] = lp cs j cs.length := by
  unfold layN
  rw [List.getD_eq_getElem?_getD, List.getElem?_append_left (by simp; exact hj), List.getElem?_map, List.getElem?_range hj]; rfl
theorem layN_page (cs : List Chg) (i : Nat) (hi : i < cs.length) : (layN cs).getD (nl cs.length + i) [] = cs[i].page := by
  unfold layN
  rw [List.getD_eq_getElem?_getD, List.getElem?_append_right (by simp)]
  simp [hi]
theorem nl_lt {i n : Nat} (h : i < n) : i / 32 < nl n := by unfold nl; omega
theorem out_lay (cs : List Chg) (hv : ∀ c ∈ cs, 0 ≤ c.no ∧ c.no < 65536) : outN (layN cs) cs.length = cs := by
  apply List.ext_getElem?
  intro i
  by_cases h2 : i < cs.length
  · have g := lp_get cs hv cs.length (Nat.le_refl _) i h2
    rw [List.getD_eq_getElem?_getD (l := cs), List.getElem?_eq_getElem h2] at g
    rw [out_at _ _ _ h2, layN_num cs _ (nl_lt h2), layN_page cs i h2, g, List.getElem?_eq_getElem h2]; rfl
  · rw [List.getElem?_eq_none (by rw [out_length]; omega), List.getElem?_eq_none (by omega)]
theorem layN_pages {cs : List Chg} (h : ∀ c ∈ cs, c.page.length = 64) : ∀ p ∈ layN cs, p.length = 64 := by
  intro p hp
  unfold layN at hp
  rcases List.mem_append.1 hp with hp | hp
  · obtain ⟨j, _, rfl⟩ := List.mem_map.1 hp
    exact lp_length _ _ _
  · obtain ⟨c, hc, rfl⟩ := List.mem_map.1 hp
    exact h c hc
def layAt : Nat → List (List UInt8) → List Chg
  | _, [] => []
  | a, p :: r => ⟨(a : Int), p⟩ :: layAt (a + 1) r
theorem layAt_mem : ∀ (ps : List (List UInt8)) (a : Nat) (c : Chg), c ∈ layAt a ps → a ≤ c.no.toNat ∧ c.no.toNat < a + ps.length ∧ c.no = (c.no.toNat : Int) ∧ c.page ∈ ps
  | [], _, c, h => by cases h
  | p :: r, a, c, h => by
    rcases List.mem_cons.1 h with rfl | h
    · simp
    · obtain ⟨h1, h2, h3, h4⟩ := layAt_mem r (a + 1) c h
      exact ⟨by omega, by simp only [List.length_cons]; omega, h3, List.mem_cons_of_mem _ h4⟩
theorem layAt_val {n a : Nat} {ps : List (List UInt8)} (h : ∀ p ∈ ps, p.length = 64) (hn : a + ps.length ≤ n) : Val n (layAt a ps) := by
  intro c hc
  obtain ⟨h1, h2, h3, h4⟩ := layAt_mem _ _ _ hc
  exact ⟨by rw [h3]; exact Dk.has_mk (by omega), h _ h4⟩
theorem upd_other (cs : List Chg) : ∀ (L : List (List UInt8)) (i : Nat), (∀ c ∈ cs, c.no.toNat ≠ i) → (upd L cs).getD i [] = L.getD i [] := by
  induction cs with
  | nil => intro L i _; rfl
  | cons c r ih =>
    intro L i h
    show (upd (L.set _ _) r).getD i [] = _
    rw [ih _ _ (fun x hx => h x (by simp [hx])), List.getD_eq_getElem?_getD, List.getElem?_set_ne (h c (by simp)), ← List.getD_eq_getElem?_getD]
theorem upd_in (cs : List Chg) : ∀ (L M : List (List UInt8)) (i : Nat), L.length = M.length → (∃ c ∈ cs, c.no.toNat = i) → (upd L cs).getD i [] = (upd M cs).getD i [] := by
  induction cs with
  | nil => intro L M i _ h; obtain ⟨c, hc, _⟩ := h; cases hc
  | cons c r ih =>
    intro L M i hl h
    show (upd (L.set _ _) r).getD i [] = (upd (M.set _ _) r).getD i []
    by_cases hr : ∃ c ∈ r, c.no.toNat = i
    · exact ih _ _ i (by simp [hl]) hr
    · have hr' : ∀ c ∈ r, c.no.toNat ≠ i := fun x hx e => hr ⟨x, hx, e⟩
      obtain ⟨x, hx, hxi⟩ := h
      have : x = c := by
        rcases List.mem_cons.1 hx with e | e
        · exact e
        · exact absurd hxi (hr' x e)
      subst this
      rw [upd_other _ _ _ hr', upd_other _ _ _ hr', List.getD_eq_getElem?_getD, List.getD_eq_getElem?_getD, List.getElem?_set, List.getElem?_set, if_pos hxi, if_pos hxi, hl]
theorem upd_layAt : ∀ (ps : List (List UInt8)) (a : Nat) (L : List (List UInt8)) (i : Nat), i < ps.length → a + ps.length ≤ L.length → (upd L (layAt a ps)).getD (a + i) [] = ps.getD i []
  | [], _, _, i, h, _ => by simp at h
  | p :: r, a, L, i, h, hl => by
    show (upd (L.set ((a : Int)).toNat p) (layAt (a + 1) r)).getD (a + i) [] = _
    rw [Int.toNat_natCast]
    simp only [List.length_cons] at h hl
    cases i with
    | zero =>
      rw [upd_other _ _ _ (fun c hc => by have := layAt_mem _ _ _ hc; omega), Nat.add_zero, List.getD_eq_getElem?_getD, List.getElem?_set_self (by omega)]; rfl
    | succ i =>
      have := upd_layAt r (a + 1) (L.set a p) i (by omega) (by simp; omega)
      rw [show a + 1 + i = a + (i + 1) by omega] at this
      rw [this]; rfl
def Same (a z : Nat) (L X : List (List UInt8)) : Prop := ∀ i, (i < a ∨ a + z ≤ i) → L.getD i [] = X.getD i []
def Out (a z : Nat) (cs : List Chg) : Prop := ∀ c ∈ cs, c.no.toNat < a ∨ a + z ≤ c.no.toNat
structure Quiet (a z : Nat) (B : Int) (L X : List (List UInt8)) : Prop where
  len : L.length = X.length
  low : Low B (L.getD a [])
  quiet : QuietP (L.getD a [])
  same : Same a z L X
structure LiveD (a z : Nat) (B : Int) (cs : List Chg) (L X : List (List UInt8)) : Prop where
  len : L.length = X.length
  head : ∃ q, 0 ≤ q ∧ q ≤ B ∧ L.getD a [] = pageH ⟨q, true, cs.length, sumN (layN cs)⟩
  laid : ∀ i, i < nl cs.length + cs.length → L.getD (a + 1 + i) [] = (layN cs).getD i []
  same : ∀ i, (i < a ∨ a + z ≤ i) → (∀ c ∈ cs, c.no.toNat ≠ i) → L.getD i [] = X.getD i []
structure May (a z n : Nat) (cs : List Chg) : Prop where
  val : Val n cs
  out : Out a z cs
  pos : 1 ≤ cs.length
  few : cs.length ≤ 512
  fit : 1 + nl cs.length + cs.length ≤ z
  reg : a + z ≤ n
  top : n ≤ 512
theorem May.num {a z n : Nat} {cs : List Chg} (h : May a z n cs) : ∀ c ∈ cs, 0 ≤ c.no ∧ c.no < 65536 := fun c hc => by
  have := Dk.has_yes (h.val c hc).1
  have := h.top
  omega
theorem live_right {q : Int} {k : Nat} {S : Int} (h0 : 0 ≤ q) (h1 : q < 4294967296) (k1 : 1 ≤ k) (k2 : k ≤ 512) : rightB ⟨q, true, (k : Int), S⟩ = true :=
  decide_eq_true ⟨h0, h1, fun _ => ⟨by show (1 : Int) ≤ k; omega, by show (k : Int) ≤ 512; omega⟩, fun h => by cases h⟩
theorem quiet_torn {a z : Nat} {B B' : Int} {L X L' : List (List UInt8)} {m : Int} (h : Quiet a z B L X) (hz : 0 < z) (hB : B ≤ B') (hB' : B' < 256) (h0 : 0 ≤ m) (h1 : m ≤ B') (hlt : getN (L.getD a []) 60 4 < m)
    (ht : Trn L [⟨(a : Int), pageH (quietH m)⟩] L') : Quiet a z B' L' X := by
  have hoth : ∀ i, i ≠ a → L'.getD i [] = L.getD i [] := fun i hi => ht.other (fun c hc => by rw [List.mem_singleton] at hc; subst hc; show ((a : Int)).toNat ≠ i; omega)
  have h1' := ht.one
  have e0 : (⟨(a : Int), pageH (quietH m)⟩ : Chg).no.toNat = a := Int.toNat_natCast a
  rw [e0] at h1'
  refine ⟨ht.len.trans h.len, ?_, ?_, fun i hi => by rw [hoth i (by omega)]; exact h.same i hi⟩
  · rcases h1' with e | ⟨b, e⟩
    · rw [e]; exact h.low.mono hB
    · rw [e]; exact (torn_cases (h := quietH m) h.low hB hB' h0 h1 hlt b).1
  · rcases h1' with e | ⟨b, e⟩
    · rw [e]; exact h.quiet
    · rw [e]
      rcases (torn_cases (h := quietH m) h.low hB hB' h0 h1 hlt b).2 with q | q | q
      · rw [q]; exact h.quiet
      · rw [q]; exact quietH_quiet h0 (by omega)
      · exact q
theorem live_low {a z : Nat} {B : Int} {cs : List Chg} {L X : List (List UInt8)} (h : LiveD a z B cs L X) (hB : B < 256) : Low B (L.getD a []) := by
  obtain ⟨q, q0, q1, e⟩ := h.head
  rw [e]; exact page_low q0 (by show q < _; omega) q1
theorem live_torn {a z : Nat} {B : Int} {cs : List Chg} {L X L' : List (List UInt8)} {m : Int} (h : LiveD a z B cs L X) (hs : Same a z L X) (hfit : 1 + nl cs.length + cs.length ≤ z) (hB : B + 1 < 256) (h0 : 0 ≤ m) (h1 : m ≤ B + 1) (hlt : getN (L.getD a []) 60 4 < m)
    (ht : Trn L [⟨(a : Int), pageH (quietH m)⟩] L') : Quiet a z (B + 1) L' X ∨ LiveD a z (B + 1) cs L' X := by
  have hoth : ∀ i, i ≠ a → L'.getD i [] = L.getD i [] := fun i hi => ht.other (fun c hc => by rw [List.mem_singleton] at hc; subst hc; show ((a : Int)).toNat ≠ i; omega)
  have h1' := ht.one
  have e0 : (⟨(a : Int), pageH (quietH m)⟩ : Chg).no.toNat = a := Int.toNat_natCast a
  rw [e0] at h1'
  have hlow := live_low h (by omega)
  have hsame : Same a z L' X := fun i hi => by rw [hoth i (by omega)]; exact hs i hi
  have live : L'.getD a [] = L.getD a [] → LiveD a z (B + 1) cs L' X := fun e => by
    obtain ⟨q, q0, q1, hq⟩ := h.head
    exact ⟨ht.len.trans h.len, ⟨q, q0, by omega, e.trans hq⟩, fun i hi => by rw [hoth _ (by omega)]; exact h.laid i hi, fun i hi _ => hsame i hi⟩
  rcases h1' with e | ⟨b, e⟩
  · exact Or.inr (live e)
  · obtain ⟨c1, c2⟩ := torn_cases (B' := B + 1) (h := quietH m) hlow (by omega) hB h0 h1 hlt b
    rw [← e] at c1 c2
    rcases c2 with q | q | q
    · exact Or.inr (live q)
    · exact Or.inl ⟨ht.len.trans h.len, c1, by rw [q]; exact quietH_quiet h0 (by omega), hsame⟩
    · exact Or.inl ⟨ht.len.trans h.len, c1, q, hsame⟩
theorem next_one (p : List UInt8) (B : Int) (h : Low B p) (hB : 0 ≤ B) : 0 ≤ nextN [p] ∧ nextN [p] ≤ B + 1 ∧ getN p 60 4 < nextN [p] := by
  refine ⟨Hd.nextN_nonneg _, ?_, ?_⟩
  · refine (Hd.nextN_le _ _).2 ⟨by omega, fun x hx => ?_⟩
    rw [List.mem_singleton] at hx
    subst hx
    have := h.f; have := h.b
    omega
  · exact (((Hd.nextN_le [p] (nextN [p])).1 (Int.le_refl _)).2 p (by simp)).2
theorem val_one {n a : Nat} (h : a < n) (g : Head) : Val n [⟨(a : Int), pageH g⟩] := by
  intro c hc
  rw [List.mem_singleton] at hc
  subst hc
  exact ⟨Dk.has_mk h, Hd.pageH_length g⟩
theorem upd_one_at {L : List (List UInt8)} {a : Nat} (h : a < L.length) (p : List UInt8) : (upd L [⟨(a : Int), p⟩]).getD a [] = p := by
  show (L.set ((a : Int)).toNat p).getD a [] = p
  rw [Int.toNat_natCast, List.getD_eq_getElem?_getD, List.getElem?_set_self h]; rfl
theorem upd_one_other {L : List (List UInt8)} {a i : Nat} (h : i ≠ a) (p : List UInt8) : (upd L [⟨(a : Int), p⟩]).getD i [] = L.getD i [] :=
  upd_other _ _ _ (fun c hc => by rw [List.mem_singleton] at hc; subst hc; show ((a : Int)).toNat ≠ i; omega)
theorem openQ {a z : Nat} {B : Int} {s : Dk.St} {X : List (List UInt8)} (h : Cl s) (hq : Quiet a z B s.last X) (ha : a < s.last.length) (hz : 0 < z) (h0 : 0 ≤ B) (hB : B < 250) :
    ((runs s [[⟨(a : Int), pageH (quietH (nextN [s.last.getD a []]))⟩]]).2 = 0 ∧ Cl (runs s [[⟨(a : Int), pageH (quietH (nextN [s.last.getD a []]))⟩]]).1 ∧ Same a z (runs s [[⟨(a : Int), pageH (quietH (nextN [s.last.getD a []]))⟩]]).1.last X ∧
      (runs s [[⟨(a : Int), pageH (quietH (nextN [s.last.getD a []]))⟩]]).1.last = s.last.set a (pageH (quietH (nextN [s.last.getD a []])))  ∧ (runs s [[⟨(a : Int), pageH (quietH (nextN [s.last.getD a []]))⟩]]).1.lim = s.lim) ∨
    ((runs s [[⟨(a : Int), pageH (quietH (nextN [s.last.getD a []]))⟩]]).2 = 5 ∧ s.lim = true ∧ (runs s [[⟨(a : Int), pageH (quietH (nextN [s.last.getD a []]))⟩]]).1.Ok ∧
      ∀ keep, Quiet a z (B + 1) (Dk.crash (runs s [[⟨(a : Int), pageH (quietH (nextN [s.last.getD a []]))⟩]]).1 keep).last X) := by
  obtain ⟨n0, n1, n2⟩ := next_one _ B hq.low h0
  rcases runs_spec [[⟨(a : Int), pageH (quietH (nextN [s.last.getD a []]))⟩]] s h (fun l hl => by rw [List.mem_singleton] at hl; subst hl; exact val_one ha _) with ⟨a1, a2, a3, a4⟩ | ⟨a1, a2, a3, j, hj, a4⟩
  · left
    refine ⟨a1, a2, ?_, ?_, a3⟩
    · rw [a4]
      intro i hi
      show (upd s.last _).getD i [] = _
      rw [upd_one_other (by omega)]
      exact hq.same i hi
    · rw [a4]
      show s.last.set ((a : Int)).toNat _ = _
      rw [Int.toNat_natCast]
  · right
    refine ⟨a1, a2, a3, fun keep => ?_⟩
    have hj0 : j = 0 := by simpa using hj
    subst hj0
    exact quiet_torn hq hz (by omega) (by omega) n0 n1 n2 (a4 keep)
theorem openL {a z : Nat} {B : Int} {s : Dk.St} {cs : List Chg} {X : List (List UInt8)} {q : Int} (h : Cl s) (hl : LiveD a z B cs s.last (upd X cs)) (hm : May a z s.last.length cs) (hq0 : 0 ≤ q) (hq1 : q ≤ B) (hq : s.last.getD a [] = pageH ⟨q, true, cs.length, sumN (layN cs)⟩) (hB : B < 250) :
    ((runs s [cs, [⟨(a : Int), pageH (quietH (q + 1))⟩]]).2 = 0 ∧ Cl (runs s [cs, [⟨(a : Int), pageH (quietH (q + 1))⟩]]).1 ∧ Same a z (runs s [cs, [⟨(a : Int), pageH (quietH (q + 1))⟩]]).1.last (upd X cs)) ∨
    ((runs s [cs, [⟨(a : Int), pageH (quietH (q + 1))⟩]]).2 = 5 ∧ s.lim = true ∧ (runs s [cs, [⟨(a : Int), pageH (quietH (q + 1))⟩]]).1.Ok ∧
      ∀ keep, Quiet a z (B + 1) (Dk.crash (runs s [cs, [⟨(a : Int), pageH (quietH (q + 1))⟩]]).1 keep).last (upd X cs) ∨ LiveD a z (B + 1) cs (Dk.crash (runs s [cs, [⟨(a : Int), pageH (quietH (q + 1))⟩]]).1 keep).last (upd X cs)) := by
  have hfit := hm.fit
  have hreg := hm.reg
  have hXl : s.last.length = X.length := by rw [hl.len, upd_length]
  have hin : ∀ i, (a ≤ i ∧ i < a + z) → ∀ c ∈ cs, c.no.toNat ≠ i := fun i hi c hc => by have := hm.out c hc; omega
  have hsame : Same a z (upd s.last cs) (upd X cs) := fun i hi => by
    by_cases hc : ∃ c ∈ cs, c.no.toNat = i
    · exact upd_in cs _ _ i hXl hc
    · have hc' : ∀ c ∈ cs, c.no.toNat ≠ i := fun x hx e => hc ⟨x, hx, e⟩
      rw [upd_other _ _ _ hc']
      exact hl.same i hi hc'
  have hhead : (upd s.last cs).getD a [] = s.last.getD a [] := upd_other _ _ _ (hin a (by omega))
  rcases runs_spec [cs, [⟨(a : Int), pageH (quietH (q + 1))⟩]] s h (fun l hl => by
      rcases List.mem_cons.1 hl with rfl | hl
      · exact hm.val
      · rw [List.mem_singleton] at hl; subst hl; exact val_one (by omega) _) with ⟨a1, a2, a3, a4⟩ | ⟨a1, a2, a3, j, hj, a4⟩
  · left
    refine ⟨a1, a2, ?_⟩
    rw [a4]
    intro i hi
    show (upd (upd s.last cs) _).getD i [] = _
    rw [upd_one_other (by omega)]
    exact hsame i hi
  · right
    refine ⟨a1, a2, a3, fun keep => ?_⟩
    have hj2 : j = 0 ∨ j = 1 := by simp at hj; omega
    rcases hj2 with rfl | rfl
    · right
      have ht : Trn s.last cs _ := a4 keep
      refine ⟨ht.len.trans hl.len, ⟨q, hq0, by omega, ?_⟩, fun i hi => ?_, fun i hi hc => ?_⟩
      · rw [ht.other (hin a (by omega))]; exact hq
      · rw [ht.other (hin _ (by omega))]; exact hl.laid i hi
      · rw [ht.other hc]; exact hl.same i hi hc
    · have ht : Trn (upd s.last cs) _ _ := a4 keep
      have hl2 : LiveD a z B cs (upd s.last cs) (upd X cs) := ⟨by rw [upd_length]; exact hl.len, ⟨q, hq0, hq1, hhead.trans hq⟩, fun i hi => by rw [upd_other _ _ _ (hin _ (by omega))]; exact hl.laid i hi, fun i hi _ => hsame i hi⟩
      refine live_torn hl2 hsame hfit (by omega) (by omega) (by omega) ?_ ht
      rw [hhead, hq, page_back _ hq0 (by show q < _; omega)]
      show q < q + 1
      omega
def liveH (q : Int) (cs : List Chg) : Head := ⟨q, true, cs.length, sumN (layN cs)⟩
def steps (a : Nat) (q : Int) (cs : List Chg) : List (List Chg) := [layAt (a + 1) (layN cs), [⟨(a : Int), pageH (liveH (q + 1) cs)⟩], cs, [⟨(a : Int), pageH (quietH (q + 2))⟩]]
theorem commitM {a z : Nat} {s : Dk.St} {cs : List Chg} {q : Int} (h : Cl s) (hm : May a z s.last.length cs) (hq0 : 0 ≤ q) (hq1 : q < 250) (hq : s.last.getD a [] = pageH (quietH q)) :
    ((runs s (steps a q cs)).2 = 0 ∧ Cl (runs s (steps a q cs)).1 ∧ Quiet a z (q + 2) (runs s (steps a q cs)).1.last (upd s.last cs) ∧ (runs s (steps a q cs)).1.last.getD a [] = pageH (quietH (q + 2)) ∧ (runs s (steps a q cs)).1.lim = s.lim) ∨
    ((runs s (steps a q cs)).2 = 5 ∧ s.lim = true ∧ (runs s (steps a q cs)).1.Ok ∧ ∀ keep, Quiet a z (q + 2) (Dk.crash (runs s (steps a q cs)).1 keep).last s.last ∨ Quiet a z (q + 2) (Dk.crash (runs s (steps a q cs)).1 keep).last (upd s.last cs) ∨ LiveD a z (q + 2) cs (Dk.crash (runs s (steps a q cs)).1 keep).last (upd s.last cs)) := by
  have hfit := hm.fit
  have hreg := hm.reg
  have hin : ∀ i, (a ≤ i ∧ i < a + z) → ∀ c ∈ cs, c.no.toNat ≠ i := fun i hi c hc => by have := hm.out c hc; omega
  have hlm : ∀ c ∈ layAt (a + 1) (layN cs), a + 1 ≤ c.no.toNat ∧ c.no.toNat < a + z := fun c hc => by
    have := layAt_mem _ _ _ hc
    rw [layN_length] at this
    omega
  have hlay : ∀ i, i < a + 1 ∨ a + z ≤ i → (upd s.last (layAt (a + 1) (layN cs))).getD i [] = s.last.getD i [] := fun i hi => upd_other _ _ _ (fun c hc => by have := hlm c hc; omega)
  have hlaid : ∀ i, i < nl cs.length + cs.length → (upd s.last (layAt (a + 1) (layN cs))).getD (a + 1 + i) [] = (layN cs).getD i [] := fun i hi => upd_layAt _ _ _ _ (by rw [layN_length]; exact hi) (by rw [layN_length]; omega)
  have hl1 : (upd s.last (layAt (a + 1) (layN cs))).length = s.last.length := upd_length _ _
  generalize hM1 : upd s.last (layAt (a + 1) (layN cs)) = M1 at hlay hlaid hl1
  -- behind the Live head
  have hl2 : (upd M1 [⟨(a : Int), pageH (liveH (q + 1) cs)⟩]).length = s.last.length := by rw [upd_length]; exact hl1
  have live2 : LiveD a z (q + 1) cs (upd M1 [⟨(a : Int), pageH (liveH (q + 1) cs)⟩]) (upd s.last cs) := by
    refine ⟨by rw [hl2, upd_length], ⟨q + 1, by omega, by omega, upd_one_at (by omega) _⟩, fun i hi => ?_, fun i hi hc => ?_⟩
    · rw [upd_one_other (by omega)]; exact hlaid i hi
    · rw [upd_one_other (by omega), hlay i (by omega), upd_other _ _ _ hc]
  generalize hM2 : upd M1 [⟨(a : Int), pageH (liveH (q + 1) cs)⟩] = M2 at hl2 live2
  have same3 : Same a z (upd M2 cs) (upd s.last cs) := fun i hi => by
    by_cases hc : ∃ c ∈ cs, c.no.toNat = i
    · exact upd_in cs _ _ i hl2 hc
    · have hc' : ∀ c ∈ cs, c.no.toNat ≠ i := fun x hx e => hc ⟨x, hx, e⟩
      rw [upd_other _ _ _ hc']
      exact live2.same i hi hc'
  have live3 : LiveD a z (q + 1) cs (upd M2 cs) (upd s.last cs) := by
    obtain ⟨p, p0, p1, hp⟩ := live2.head
    exact ⟨by rw [upd_length, upd_length]; exact hl2, ⟨p, p0, p1, by rw [upd_other _ _ _ (hin a (by omega))]; exact hp⟩, fun i hi => by rw [upd_other _ _ _ (hin _ (by omega))]; exact live2.laid i hi, fun i hi _ => same3 i hi⟩
  have head3 : (upd M2 cs).getD a [] = pageH (liveH (q + 1) cs) := by
    rw [upd_other _ _ _ (hin a (by omega)), ← hM2, upd_one_at (by omega)]
  have hl3 : (upd M2 cs).length = s.last.length := by rw [upd_length]; exact hl2
  have q0 : Quiet a z q s.last s.last := ⟨rfl, by rw [hq]; exact page_low hq0 (by show q < _; omega) (Int.le_refl _), by rw [hq]; exact quietH_quiet hq0 (by omega), fun _ _ => rfl⟩
  rcases runs_spec (steps a q cs) s h (fun l hl => by
      unfold steps at hl
      simp only [List.mem_cons, List.not_mem_nil, or_false] at hl
      rcases hl with rfl | rfl | rfl | rfl
      · exact layAt_val (layN_pages fun c hc => (hm.val c hc).2) (by rw [layN_length]; omega)
      · exact val_one (by omega) _
      · exact hm.val
      · exact val_one (by omega) _) with ⟨a1, a2, a3, a4⟩ | ⟨a1, a2, a3, j, hj, a4⟩
  · left
    have e4 : updAll s.last (steps a q cs) = upd (upd M2 cs) [⟨(a : Int), pageH (quietH (q + 2))⟩] := by rw [← hM2, ← hM1]; rfl
    rw [e4] at a4
    have hh : (runs s (steps a q cs)).1.last.getD a [] = pageH (quietH (q + 2)) := by rw [a4, upd_one_at (by omega)]
    refine ⟨a1, a2, ⟨by rw [a4, upd_length, upd_length, upd_length]; exact hl2, ?_, ?_, ?_⟩, hh, a3⟩
    · rw [hh]; exact page_low (by show 0 ≤ q + 2; omega) (by show q + 2 < _; omega) (Int.le_refl _)
    · rw [hh]; exact quietH_quiet (by omega) (by omega)
    · rw [a4]
      intro i hi
      rw [upd_one_other (by omega)]
      exact same3 i hi
  · right
    refine ⟨a1, a2, a3, fun keep => ?_⟩
    have hj4 : j = 0 ∨ j = 1 ∨ j = 2 ∨ j = 3 := by unfold steps at hj; simp at hj; omega
    rcases hj4 with rfl | rfl | rfl | rfl
    · left
      have ht : Trn s.last (layAt (a + 1) (layN cs)) (Dk.crash (runs s (steps a q cs)).1 keep).last := a4 keep
      have hoth : ∀ i, i < a + 1 ∨ a + z ≤ i → (Dk.crash (runs s (steps a q cs)).1 keep).last.getD i [] = s.last.getD i [] := fun i hi => ht.other (i := i) (fun c hc => by have := hlm c hc; omega)
      refine ⟨ht.len, ?_, ?_, fun i hi => hoth i (by omega)⟩
      · rw [hoth a (by omega)]; exact q0.low.mono (by omega)
      · rw [hoth a (by omega)]; exact q0.quiet
    · have ht : Trn M1 [⟨(a : Int), pageH (liveH (q + 1) cs)⟩] (Dk.crash (runs s (steps a q cs)).1 keep).last := by
        have := a4 keep
        rw [show updAll s.last ((steps a q cs).take 1) = M1 by rw [← hM1]; rfl] at this
        exact this
      have hoth : ∀ i, i ≠ a → (Dk.crash (runs s (steps a q cs)).1 keep).last.getD i [] = M1.getD i [] := fun i hi => ht.other (i := i) (fun c hc => by rw [List.mem_singleton] at hc; subst hc; show ((a : Int)).toNat ≠ i; omega)
      have h1' := ht.one
      have e0 : (⟨(a : Int), pageH (liveH (q + 1) cs)⟩ : Chg).no.toNat = a := Int.toNat_natCast a
      rw [e0, hlay a (by omega)] at h1'
      have hsame : Same a z (Dk.crash (runs s (steps a q cs)).1 keep).last s.last := fun i hi => by rw [hoth i (by omega)]; exact hlay i (by omega)
      have hlen := ht.len.trans hl1
      have old : (Dk.crash (runs s (steps a q cs)).1 keep).last.getD a [] = s.last.getD a [] → Quiet a z (q + 2) (Dk.crash (runs s (steps a q cs)).1 keep).last s.last := fun e =>
        ⟨hlen, by rw [e]; exact q0.low.mono (by omega), by rw [e]; exact q0.quiet, hsame⟩
      rcases h1' with e | ⟨b, e⟩
      · exact Or.inl (old e)
      · obtain ⟨c1, c2⟩ := torn_cases (B' := q + 2) (h := liveH (q + 1) cs) q0.low (by omega) (by omega) (by show 0 ≤ q + 1; omega) (by show q + 1 ≤ q + 2; omega) (by rw [hq, page_back _ hq0 (by show q < _; omega)]; show q < q + 1; omega) b
        rw [← e] at c1 c2
        rcases c2 with p | p | p
        · exact Or.inl (old p)
        · right; right
          refine ⟨by rw [hlen, upd_length], ⟨q + 1, by omega, by omega, p⟩, fun i hi => ?_, fun i hi hc => ?_⟩
          · rw [hoth _ (by omega)]; exact hlaid i hi
          · rw [hsame i hi, upd_other _ _ _ hc]
        · exact Or.inl ⟨hlen, c1, p, hsame⟩
    · right; right
      have ht : Trn M2 cs (Dk.crash (runs s (steps a q cs)).1 keep).last := by
        have := a4 keep
        rw [show updAll s.last ((steps a q cs).take 2) = M2 by rw [← hM2, ← hM1]; rfl] at this
        exact this
      obtain ⟨p, p0, p1, hp⟩ := live2.head
      refine ⟨ht.len.trans live2.len, ⟨p, p0, by omega, ?_⟩, fun i hi => ?_, fun i hi hc => ?_⟩
      · rw [ht.other (hin a (by omega))]; exact hp
      · rw [ht.other (hin _ (by omega))]; exact live2.laid i hi
      · rw [ht.other hc]; exact live2.same i hi hc
    · right
      have ht : Trn (upd M2 cs) [⟨(a : Int), pageH (quietH (q + 2))⟩] (Dk.crash (runs s (steps a q cs)).1 keep).last := by
        have := a4 keep
        rw [show updAll s.last ((steps a q cs).take 3) = upd M2 cs by rw [← hM2, ← hM1]; rfl] at this
        exact this
      have := live_torn live3 same3 hfit (by omega) (by omega) (by omega) (by rw [head3, page_back _ (by show 0 ≤ q + 1; omega) (by show q + 1 < _; omega)]; show q + 1 < q + 2; omega) ht
      rw [show q + 1 + 1 = q + 2 by omega] at this
      exact this
end Jn

section
open Go.RowKit
open Dk (zeros zeros_length)
open Hd (Head rightB pageH)
open Jn (Chg)
def SlAt {α : Type} (w : World) (A : Option Addr) (L : List Nat) (k : Nat) (f : α → List Value) (xs : List α) : Prop :=
  0 < xs.length → ∃ b off, A = some ⟨b, off, none⟩ ∧ b < w.heap.size ∧ b ∉ L ∧ ∀ i x, xs[i]? = some x → w.rangeAt b (off + i * k) (f x)
theorem SlAt.only {α : Type} {w w' : World} {A : Option Addr} {L L' : List Nat} {k : Nat} {f : α → List Value} {xs : List α} (h : SlAt w A L k f xs) (ho : Only L' w w') (hL : ∀ x ∈ L', x ∈ L) : SlAt w' A L k f xs := fun h0 => by
  obtain ⟨b, off, e, h1, h2, h3⟩ := h h0
  exact ⟨b, off, e, Nat.lt_of_lt_of_le h1 ho.size, h2, fun i x hx j v hv => (ho.cell (p := ⟨b, off + i * k + j, none⟩) h1 (fun q => h2 (hL _ q))).trans (h3 i x hx j v hv)⟩
theorem SlAt.below {α : Type} {w w' : World} {A : Option Addr} {L : List Nat} {k : Nat} {f : α → List Value} {xs : List α} (h : SlAt w A L k f xs) (hb : Below w.heap.size w w') : SlAt w' A L k f xs := h.only (L' := []) (Only.below hb) (by simp)
theorem SlAt.mono {α : Type} {w : World} {A : Option Addr} {L L' : List Nat} {k : Nat} {f : α → List Value} {xs : List α} (h : SlAt w A L k f xs) (hL : ∀ x ∈ L', x ∈ L) : SlAt w A L' k f xs := fun h0 => by
  obtain ⟨b, off, e, h1, h2, h3⟩ := h h0
  exact ⟨b, off, e, h1, fun q => h2 (hL _ q), h3⟩
abbrev PgAt (w : World) (A : Option Addr) (L : List Nat) (ps : List (List UInt8)) : Prop := SlAt w A L 64 byteVals ps
theorem PgAt.row {w : World} {A : Option Addr} {L : List Nat} {ps : List (List UInt8)} (h : PgAt w A L ps) (hl : ps.length ≤ 1000) (hp : ∀ p ∈ ps, p.length = 64) : PageRow w A ps.length ps where
  len := rfl
  small := by unfold maxLen; omega
  size := hp
  cells := fun h0 => by
    obtain ⟨b, off, e, h1, _, h3⟩ := h h0
    exact ⟨b, off, e, h1, h3⟩
theorem RowsAt.slice {w : World} {b : Nat} {ps : List (List UInt8)} (h : RowsAt w b ps) {L : List Nat} (hb : b ∉ L) : PgAt w (some ⟨b, 0, none⟩) L ps := fun h0 =>
  ⟨b, 0, rfl, h.lt h0, hb, fun i p hp => by rw [Nat.zero_add]; exact h.range i p hp⟩
theorem RowsAt.below {w w' : World} {b : Nat} {ps : List (List UInt8)} (h : RowsAt w b ps) (hb : Below w.heap.size w w') (hl : b < w.heap.size) : RowsAt w' b ps := h.block (hb.block b hl)
theorem RowAt.block {w w' : World} {b : Nat} {vs : List Value} (h : RowAt w b vs) (hb : w'.heap[b]? = w.heap[b]?) : RowAt w' b vs := ⟨rangeAt_block h.range hb, there_block h.free hb⟩
theorem RowAt.only {w w' : World} {b : Nat} {v : Value} {vs : List Value} {L : List Nat} (h : RowAt w b (v :: vs)) (ho : Only L w w') (hL : b ∉ L) : RowAt w' b (v :: vs) := h.block (ho.block b h.lt hL)
def chgVals (c : Chg) : List Value := .int .i64 c.no :: byteVals c.page
def chgV (c : Chg) : Value := .agg (chgVals c).toArray
theorem chgVals_one (c : Chg) : ∀ v ∈ chgVals c, v.oneCell' = true := by
  intro v hv
  rcases List.mem_cons.1 hv with rfl | hv
  · rfl
  · exact byteVals_one _ v hv
theorem chgVals_length {c : Chg} (h : c.page.length = 64) : (chgVals c).length = 65 := by unfold chgVals; rw [List.length_cons, byteVals_length, h]
theorem chg_info : (Tryz.prog.info? 177).map (·.size) = some 65 := by kernel_rfl
abbrev ChAt (w : World) (A : Option Addr) (L : List Nat) (cs : List Chg) : Prop := SlAt w A L 65 chgVals cs
abbrev ChVar (w : World) (b : Nat) (c : Chg) : Prop := RowAt w b (chgVals c)
theorem ChVar.no {w : World} {b : Nat} {c : Chg} (h : ChVar w b c) : w.cell? ⟨b, 0, none⟩ = some (.int .i64 c.no) := RowAt.cell h 0 _ rfl
theorem ChVar.page {w : World} {b : Nat} {c : Chg} (h : ChVar w b c) : w.rangeAt b 1 (byteVals c.page) := fun j v hv => by
  have := h.range (j + 1) v (by unfold chgVals; exact hv)
  rwa [show 0 + (j + 1) = 1 + j by omega] at this
theorem wpList_load_chg {ops : Array Oper} {rest : List Oper} {op : Oper} {a : Act} {Q : Exit → Act → World → Prop} {w : World} {b o : Nat} {c : Chg} (hr : w.rangeAt b o (chgVals c)) (hp : c.page.length = 64) (hgd : op.guard = none) (x : Operand) (ho : op.op = .load 177 x)
    (hx : a.eval x = .pointer (some ⟨b, o, none⟩)) (h : wpList Tryz.prog ops Q rest (a.put op.dst (chgV c)) w) : wpList Tryz.prog ops Q (op :: rest) a w :=
  wpList_load_mid hgd 177 x ho b o hx (chgVals c) _ hr Tryz.underlying177 rfl (by rw [chg_info, chgVals_length hp]) h
theorem wpList_store_newchg {ops : Array Oper} {rest : List Oper} {op : Oper} {a : Act} {Q : Exit → Act → World → Prop} {w : World} {Z : Array Value} {t : TypeId} {c : Chg} (hp : c.page.length = 64) (hgd : op.guard = none) (x y : Operand) (ho : op.op = .store 177 x y)
    (hx : a.eval x = .pointer (some ⟨w.heap.size, 0, none⟩)) (hy : a.eval y = chgV c) (hZ : Z.size = 65)
    (h : ∀ W2, ChVar W2 w.heap.size c → Below w.heap.size w W2 → W2.heap.size = w.heap.size + 1 → wpList Tryz.prog ops Q rest (a.put op.dst undef) W2) :
    wpList Tryz.prog ops Q (op :: rest) a (w.alloc (.cells Z t)) := by
  have hlen : (chgVals c).toArray.size = 65 := by rw [List.size_toArray, chgVals_length hp]
  have ht : (w.alloc (.cells Z t)).there w.heap.size 0 65 := there_new w Z t _ (by omega)
  refine wpList_store_mid hgd 177 x y ho w.heap.size 0 (chgVals c).toArray hx hy (by rw [hlen]; exact ht) (by rw [chg_info, hlen]) (all_oneCell_toArray (chgVals_one c)) (h _ ?_ ?_ ?_)
  · exact ⟨World.rangeAt_setCells_same _ _ _ _ (by rw [List.toList_toArray, chgVals_length hp]; exact ht), World.there_setCells (by rw [chgVals_length hp]; exact ht) _ _ _⟩
  · exact below_setCells _ (Nat.le_refl _) _ _ _ ((Below.refl _ _).alloc (Nat.le_refl _) _)
  · rw [heap_setCells]; simp
def chgZero : Array Value := (chgVals ⟨0, zeros⟩).toArray
theorem chgZero_size : chgZero.size = 65 := by unfold chgZero; rw [List.size_toArray, chgVals_length zeros_length]
theorem zeroChg (w : World) : (zeroValue 177).run Tryz.prog w = .ok (.agg chgZero) w := by kernel_rfl
def regV (d a z : Nat) : Value := .agg #[.pointer (some ⟨d, 0, none⟩), .int .i64 (a : Int), .int .i64 (z : Int)]
def regVals (d a z : Nat) : List Value := [.pointer (some ⟨d, 0, none⟩), .int .i64 (a : Int), .int .i64 (z : Int)]
theorem reg_info : (Tryz.prog.info? 170).map (·.size) = some 3 := by kernel_rfl
def jVals (d a z : Nat) (q : Int) (o : Bool) : List Value := [.pointer (some ⟨d, 0, none⟩), .int .i64 (a : Int), .int .i64 (z : Int), .int .i64 q, .bool o]
structure JAt (w : World) (j d a z : Nat) (q : Int) (o : Bool) : Prop where
  row : RowAt w j (jVals d a z q o)
theorem JAt.c0 {w : World} {j d a z : Nat} {q : Int} {o : Bool} (h : JAt w j d a z q o) : w.cell? ⟨j, 0, none⟩ = some (.pointer (some ⟨d, 0, none⟩)) := h.row.cell 0 _ rfl
theorem JAt.c1 {w : World} {j d a z : Nat} {q : Int} {o : Bool} (h : JAt w j d a z q o) : w.cell? ⟨j, 1, none⟩ = some (.int .i64 (a : Int)) := h.row.cell 1 _ rfl
theorem JAt.c2 {w : World} {j d a z : Nat} {q : Int} {o : Bool} (h : JAt w j d a z q o) : w.cell? ⟨j, 2, none⟩ = some (.int .i64 (z : Int)) := h.row.cell 2 _ rfl
theorem JAt.c3 {w : World} {j d a z : Nat} {q : Int} {o : Bool} (h : JAt w j d a z q o) : w.cell? ⟨j, 3, none⟩ = some (.int .i64 q) := h.row.cell 3 _ rfl
theorem JAt.c4 {w : World} {j d a z : Nat} {q : Int} {o : Bool} (h : JAt w j d a z q o) : w.cell? ⟨j, 4, none⟩ = some (.bool o) := h.row.cell 4 _ rfl
theorem JAt.f {w : World} {j d a z : Nat} {q : Int} {o : Bool} (h : JAt w j d a z q o) (i : Nat) (hi : i < 5) : w.frozen? ⟨j, i, none⟩ = false := by
  have := (h.row.free i hi).2
  rwa [Nat.zero_add] at this
theorem JAt.lt {w : World} {j d a z : Nat} {q : Int} {o : Bool} (h : JAt w j d a z q o) : j < w.heap.size := h.row.lt
theorem JAt.block {w w' : World} {j d a z : Nat} {q : Int} {o : Bool} (h : JAt w j d a z q o) (hb : w'.heap[j]? = w.heap[j]?) : JAt w' j d a z q o := ⟨h.row.block hb⟩
theorem JAt.only {w w' : World} {j d a z : Nat} {q : Int} {o : Bool} {L : List Nat} (h : JAt w j d a z q o) (ho : Only L w w') (hL : j ∉ L) : JAt w' j d a z q o := h.block (ho.block j h.lt hL)
theorem JAt.below {w w' : World} {j d a z : Nat} {q : Int} {o : Bool} (h : JAt w j d a z q o) (hb : Below w.heap.size w w') : JAt w' j d a z q o := h.block (hb.block j h.lt)
theorem JAt.reg {w : World} {j d a z : Nat} {q : Int} {o : Bool} (h : JAt w j d a z q o) : w.rangeAt j 0 (regVals d a z) := fun i v hv => h.row.range i v (by
  unfold regVals at hv
  unfold jVals
  match i, hv with
  | 0, hv => exact hv
  | 1, hv => exact hv
  | 2, hv => exact hv)
theorem JAt.setSeq {w : World} {j d a z : Nat} {q : Int} {o : Bool} (h : JAt w j d a z q o) (x : Int) : JAt (w.setCell ⟨j, 3, none⟩ (.int .i64 x)) j d a z x o where
  row := ⟨fun i v hv => by
      rw [Nat.zero_add]
      by_cases e : 3 = i
      · subst e
        have hv' : v = .int .i64 x := by unfold jVals at hv; simpa using hv.symm
        rw [hv']
        exact World.cell?_setCell_same' _ _ _ (by rw [h.c3]; rfl)
      · rw [World.cell?_setCell_other _ _ _ _ (fun q => e (by injection q))]
        have : (jVals d a z q o)[i]? = some v := by
          rw [← hv]
          unfold jVals
          match i, e with
          | 0, _ => rfl
          | 1, _ => rfl
          | 2, _ => rfl
          | 4, _ => rfl
          | _ + 5, _ => rfl
        have := h.row.range i v this
        rwa [Nat.zero_add] at this,
    fun i hi => by
      have hf := h.row.free i hi
      rw [World.frozen?_setCell]
      refine ⟨?_, hf.2⟩
      by_cases e : 3 = i
      · subst e
        rw [Nat.zero_add, World.cell?_setCell_same' _ _ _ (by rw [h.c3]; rfl)]; rfl
      · rw [World.cell?_setCell_other _ _ _ _ (fun q => e (by injection q with _ q; omega))]; exact hf.1⟩
theorem JAt.setOver {w : World} {j d a z : Nat} {q : Int} {o : Bool} (h : JAt w j d a z q o) (x : Bool) : JAt (w.setCell ⟨j, 4, none⟩ (.bool x)) j d a z q x where
  row := ⟨fun i v hv => by
      rw [Nat.zero_add]
      by_cases e : 4 = i
      · subst e
        have hv' : v = .bool x := by unfold jVals at hv; simpa using hv.symm
        rw [hv']
        exact World.cell?_setCell_same' _ _ _ (by rw [h.c4]; rfl)
      · rw [World.cell?_setCell_other _ _ _ _ (fun q => e (by injection q))]
        have : (jVals d a z q o)[i]? = some v := by
          rw [← hv]
          unfold jVals
          match i, e with
          | 0, _ => rfl
          | 1, _ => rfl
          | 2, _ => rfl
          | 3, _ => rfl
          | _ + 5, _ => rfl
        have := h.row.range i v this
        rwa [Nat.zero_add] at this,
    fun i hi => by
      have hf := h.row.free i hi
      rw [World.frozen?_setCell]
      refine ⟨?_, hf.2⟩
      by_cases e : 4 = i
      · subst e
        rw [Nat.zero_add, World.cell?_setCell_same' _ _ _ (by rw [h.c4]; rfl)]; rfl
      · rw [World.cell?_setCell_other _ _ _ _ (fun q => e (by injection q with _ q; omega))]; exact hf.1⟩
theorem wpList_load_reg {ops : Array Oper} {rest : List Oper} {op : Oper} {a : Act} {Q : Exit → Act → World → Prop} {w : World} {b d x0 z : Nat} (hr : w.rangeAt b 0 (regVals d x0 z)) (hgd : op.guard = none) (x : Operand) (ho : op.op = .load 170 x)
    (hx : a.eval x = .pointer (some ⟨b, 0, none⟩)) (h : wpList Tryz.prog ops Q rest (a.put op.dst (regV d x0 z)) w) : wpList Tryz.prog ops Q (op :: rest) a w :=
  wpList_load_mid hgd 170 x ho b 0 hx (regVals d x0 z) _ hr Tryz.underlying170 rfl reg_info h
end

section
open Go.RowKit
open Dk (zeros zeros_length)
open Hd (Head rightB pageH)
open Jn (Chg)
theorem page_text {W : World} {B : Nat} {p : List UInt8} (h : PageAt W B p) : (convert 48 9 (.slice (some ⟨B, 0, none⟩) 64 64)).run Tryz.prog W = .ok (.string ⟨p.toArray⟩) W := by
  have := run_convert_bytes_back (P := Tryz.prog) W 48 9 5 ⟨B, 0, none⟩ 64 p Tryz.underlying48 Tryz.underlying5 Tryz.underlying9 (fun j hj => by
    rw [Addr.add_mid]
    have := h.range j _ (byteVals_at p j hj)
    exact this)
  rw [h.len] at this
  exact this
theorem sumPages_any (A : Option Addr) (n c : Nat) (ps : List (List UInt8)) (w : World) (hrow : PageRow w A n ps) (hn : n ≤ 1000) (h0 : 0 < n) :
    Calls Tryz.prog 156 #[.slice A n c] w fun e w' => e = .returned (.int .u32 (Jn.sumN ps)) ∧ Below w.heap.size w w' := by
  have HR : Hid (NxR w A n ps w) := Lib.hid ⟨hrow, Below.refl _ _⟩
  have HL := Lib.hid hrow.len
  have HZ := Lib.hid hrow.size
  clear hrow
  have hf := Mt.fit_zero
  go_enter Tryz.func156, Tryz.ntmps156
  go_wp2_with (go_at_call 167; refine (split_any _ _ (by omega) (by omega)).mono ?_; rintro e w' ⟨rfl, rfl⟩)
  go_loopw [3, 4, 13] (fun x y i wr => ∃ k : Nat, k ≤ n ∧ i = .int .i64 k ∧ x = .int .u32 (Mt.run (0, 0) (ps.take k).flatten).1 ∧ y = .int .u32 (Mt.run (0, 0) (ps.take k).flatten).2 ∧ NxR w A n ps wr) (fun _ _ i _ => n - (intOf i).toNat)
  case atStart => exact ⟨0, Nat.zero_le _, rfl, rfl, rfl, HR.out⟩
  case round =>
    obtain ⟨k, hk, rfl, rfl, rfl, hnx⟩ := hrel
    have HX := Lib.hid hnx
    clear hnx HR
    have hr := Mt.fit_run (0, 0) (ps.take k).flatten hf
    obtain ⟨r1, r2, r3, r4⟩ := id hr
    have HF := Lib.hid hr; clear hr
    by_cases hlt : k < n
    · obtain ⟨b, off, rfl, hb, hc⟩ := HX.out.1.cells (by omega)
      obtain ⟨p, hp⟩ : ∃ p, ps[k]? = some p := ⟨_, List.getElem?_eq_getElem (by rw [HL.out]; exact hlt)⟩
      have HP := Lib.hid (hc k p hp)
      have HPL := Lib.hid (HZ.out p (List.mem_of_getElem? hp))
      have HS : Hid (Mt.run (0, 0) (ps.take (k + 1)).flatten = Mt.run (Mt.run (0, 0) (ps.take k).flatten) (⟨p.toArray⟩ : ByteArray).data.toList) := Lib.hid (by
        rw [take_more ps k p hp, List.flatten_append, Mt.run_append]; simp)
      have HSZ : Hid ((⟨p.toArray⟩ : ByteArray).size ≤ maxLen) := Lib.hid (by show p.toArray.size ≤ _; rw [List.size_toArray, HPL.out]; unfold maxLen; omega)
      clear hc hp hb
      go_wp2_with (first
        | ((with_reducible refine wpList_load_at HP.out HPL.out rfl (.tmp 15) rfl ?_ ?_); (exact rfl))
        | ((with_reducible refine wpList_store_new rfl (.tmp 6) (.tmp 16) rfl rfl ?_ ?_ HPL.out ?_); (exact rfl); (exact rfl); intro W2 hP hB2 hz2; have hcv := page_text hP; have HX2 := Lib.hid (NxR.call HX.out hB2); clear HX hP hB2 hz2)
        | (go_at_call 168; refine (add_any _ _ _ _ HF.out HSZ.out).mono ?_; rintro e w' ⟨rfl, rfl⟩))
      go_roundw
      case rel => exact ⟨k + 1, by omega, by go_num, by rw [HS.out]; rfl, by rw [HS.out]; rfl, HX2.out⟩
      case measure => simp [intOf]; omega
    · have HK : Hid (ps.take k = ps) := Lib.hid (List.take_of_length_le (by rw [HL.out]; omega))
      go_wp2_with (go_at_call 169; refine (join_any _ _ _ r1 r2 r3 r4).mono ?_; rintro e w' ⟨rfl, rfl⟩)
      go_ret
      exact ⟨ret_int (by rw [HK.out]; rfl), HX.out.2⟩
def RoomIs (z r : Nat) : Prop := ∀ w, Calls Tryz.prog 141 #[.int .i64 (z : Int)] w fun e w' => e = .returned (.int .i64 (r : Int)) ∧ w = w'
theorem room40 : RoomIs 40 37 := fun w => by
  show Calls Tryz.prog 141 #[.int .i64 40] w fun e w' => e = .returned (.int .i64 37) ∧ w = w'
  go_enter Tryz.func141, Tryz.ntmps141
  go_wp2
  go_ret
  exact ⟨rfl, rfl⟩
theorem lists_any (n : Nat) (h1 : 1 ≤ n) (h2 : n ≤ 900) (w : World) : Calls Tryz.prog 165 #[.int .i64 (n : Int)] w fun e w' => e = .returned (.int .i64 ((Jn.nl n : Nat) : Int)) ∧ w = w' := by
  go_enter Tryz.func165, Tryz.ntmps165
  go_wp2
  go_ret
  exact ⟨ret_int (by unfold Jn.nl; omega), rfl⟩
def otherB (n a z : Nat) (i : Int) : Bool := decide (0 ≤ i ∧ i < (n : Int) ∧ (i < (a : Int) ∨ (a : Int) + (z : Int) ≤ i))
theorem other_any {w : World} {d l m : Nat} {s : Dk.St} (h : DiskAt w d l m s) (a z : Nat) (ha : a ≤ 1000) (hz : z ≤ 1000) (i : Int) :
    Calls Tryz.prog 152 #[regV d a z, .int .i64 i] w fun e w' => e = .returned (.bool (otherB s.last.length a z i)) ∧ Below w.heap.size w w' := by
  have HD := Lib.hid (pages_any (h.alloc (.cells #[.pointer (some ⟨d, 0, none⟩), .int .i64 (a : Int), .int .i64 (z : Int)] 170)))
  have hsm := h.ok.small
  clear h
  unfold regV
  generalize s.last.length = n at HD hsm ⊢
  by_cases c1 : 0 ≤ i
  · by_cases c2 : i < (n : Int)
    · by_cases c3 : i < (a : Int)
      · go_enter Tryz.func152, Tryz.ntmps152
        go_wp2_with (go_at_call 72; refine HD.out.mono ?_; rintro e w' ⟨rfl, rfl⟩)
        go_ret
        exact ⟨ret_bool (by unfold otherB; symm; rw [decide_eq_true_iff]; omega), (Below.refl _ _).alloc (Nat.le_refl _) _⟩
      · go_enter Tryz.func152, Tryz.ntmps152
        go_wp2_with (go_at_call 72; refine HD.out.mono ?_; rintro e w' ⟨rfl, rfl⟩)
        go_ret
        exact ⟨ret_bool (by unfold otherB; rw [← Bool.decide_or, decide_eq_decide]; omega), (Below.refl _ _).alloc (Nat.le_refl _) _⟩
    · go_enter Tryz.func152, Tryz.ntmps152
      go_wp2_with (go_at_call 72; refine HD.out.mono ?_; rintro e w' ⟨rfl, rfl⟩)
      go_ret
      exact ⟨ret_bool (by unfold otherB; symm; rw [decide_eq_false_iff_not]; omega), (Below.refl _ _).alloc (Nat.le_refl _) _⟩
  · go_enter Tryz.func152, Tryz.ntmps152
    go_wp2_with fail
    go_ret
    exact ⟨ret_bool (by unfold otherB; symm; rw [decide_eq_false_iff_not]; omega), (Below.refl _ _).alloc (Nat.le_refl _) _⟩
end

section
open Go.RowKit
open Dk (zeros zeros_length)
open Hd (Head rightB pageH)
open Jn (Chg)
structure PutI (w : World) (d l m : Nat) (R : World → Prop) (r a z : Nat) (s : Dk.St) (W : World) : Prop where
  disk : DiskAt W d l m s
  row : R W
  reg : RowAt W r (regVals d a z)
  fresh : w.heap.size ≤ r
  old : d < w.heap.size ∧ l < w.heap.size ∧ m < w.heap.size
  only : Only [d, l, m] w W
def Stays (R : World → Prop) (d l m : Nat) : Prop := ∀ W W' L, (∀ x ∈ L, x ∈ [d, l, m]) → Only L W W' → R W → R W'
theorem PutI.call {w : World} {d l m : Nat} {R : World → Prop} {r a z : Nat} {s s' : Dk.St} {W W' : World} {L : List Nat} (h : PutI w d l m R r a z s W) (hR : Stays R d l m) (hd : DiskAt W' d l m s') (ho : Only L W W') (hL : ∀ x ∈ L, x ∈ [d, l, m]) : PutI w d l m R r a z s' W' where
  disk := hd
  row := hR W W' L hL ho h.row
  reg := h.reg.only ho (fun e => by have := hL _ e; have := h.old; have := h.fresh; simp at *; omega)
  fresh := h.fresh
  old := h.old
  only := h.only.trans (ho.mono hL)
theorem PutI.below {w : World} {d l m : Nat} {R : World → Prop} {r a z : Nat} {s : Dk.St} {W W' : World} (h : PutI w d l m R r a z s W) (hR : Stays R d l m) (hb : Below W.heap.size W W') : PutI w d l m R r a z s W' :=
  h.call hR (h.disk.below hb) (Only.below (l := []) hb) (by simp)
theorem PutI.far {w : World} {d l m : Nat} {R : World → Prop} {r a z : Nat} {s : Dk.St} {W : World} (h : PutI w d l m R r a z s W) (b : Nat) (hb : w.heap.size ≤ b) : b ∉ [d, l, m] := fun e => by
  have := h.old
  simp at e
  omega
theorem putI_start {w : World} {d l m : Nat} {R : World → Prop} {s : Dk.St} (a z : Nat) (h : DiskAt w d l m s) (hR : Stays R d l m) (hr : R w) (t : TypeId) : PutI w d l m R w.heap.size a z s (w.alloc (.cells (regVals d a z).toArray t)) where
  disk := h.alloc _
  row := hR w _ [] (by simp) ((Only.refl _ _).alloc _) hr
  reg := rowAt_new w _ t
  fresh := Nat.le_refl _
  old := ⟨h.dlt, h.llt, h.mlt⟩
  only := (Only.refl _ _).alloc _
theorem stays_pg (A : Option Addr) (d l m : Nat) (ps : List (List UInt8)) : Stays (fun W => PgAt W A [d, l, m] ps) d l m := fun _ _ _ hL ho h => h.only ho hL
theorem stays_ch (A : Option Addr) (d l m : Nat) (cs : List Chg) : Stays (fun W => ChAt W A [d, l, m] cs) d l m := fun _ _ _ hL ho h => h.only ho hL
theorem layAt_rest (ps : List (List UInt8)) (a k : Nat) (p : List UInt8) (h : ps[k]? = some p) : Jn.layAt (a + k) (ps.drop k) = ⟨((a + k : Nat) : Int), p⟩ :: Jn.layAt (a + (k + 1)) (ps.drop (k + 1)) := by
  obtain ⟨hk, he⟩ := List.getElem?_eq_some_iff.1 h
  rw [List.drop_eq_getElem_cons hk, he]
  rfl
theorem runW_ok {s : Dk.St} {c : Chg} {r : List Chg} (h : Dk.writeE s c.no = 0) : Jn.runW s (c :: r) = Jn.runW (Dk.write s c.no c.page) r := by rw [Jn.runW, if_pos h]
theorem runW_bad {s : Dk.St} {c : Chg} {r : List Chg} (h : Dk.writeE s c.no ≠ 0) : Jn.runW s (c :: r) = (Dk.write s c.no c.page, Dk.writeE s c.no) := by rw [Jn.runW, if_neg h]
theorem put_any {w : World} {d l m : Nat} {s : Dk.St} (h : DiskAt w d l m s) (g a z : Nat) (A : Option Addr) (c : Nat) (ps : List (List UInt8)) (hrow : PgAt w A [d, l, m] ps) (hp : ∀ p ∈ ps, p.length = 64) (hl : ps.length ≤ 1000) (ha : a ≤ 1000) :
    Calls Tryz.prog 154 #[regV d g z, .int .i64 (a : Int), .slice A ps.length c] w fun e w' => e = .returned (.int .i64 (Jn.runW s (Jn.layAt a ps)).2) ∧ DiskAt w' d l m (Jn.runW s (Jn.layAt a ps)).1 ∧ Only [d, l, m] w w' := by
  have HS := Lib.hid (putI_start g z h (stays_pg A d l m ps) hrow 170)
  have HP := Lib.hid hp
  have HST := Lib.hid (stays_pg A d l m ps)
  clear h hrow hp
  obtain ⟨n, hn⟩ : ∃ n, ps.length = n := ⟨_, rfl⟩
  have HN := Lib.hid hn
  rw [hn] at hl ⊢
  clear hn
  unfold regV
  go_enter Tryz.func154, Tryz.ntmps154
  go_wp2_with fail
  unfold regVals at HS
  generalize (w.alloc (.cells _ 170)) = w1 at HS ⊢
  generalize hrb : w.heap.size = rb at HS ⊢
  go_loopw [12] (fun i wr => ∃ (k : Nat) (sk : Dk.St), k ≤ n ∧ i = .int .i64 k ∧ PutI w d l m (fun W => PgAt W A [d, l, m] ps) rb g z sk wr ∧ Jn.runW s (Jn.layAt a ps) = Jn.runW sk (Jn.layAt (a + k) (ps.drop k))) (fun i _ => n - (intOf i).toNat)
  case atStart => exact ⟨0, s, Nat.zero_le _, rfl, HS.out, rfl⟩
  case round =>
    obtain ⟨k, sk, hk, rfl, hput, hrun⟩ := hrel
    have HI := Lib.hid hput
    have HR := Lib.hid hrun
    clear hput hrun HS
    by_cases hlt : k < n
    · obtain ⟨p, hpk⟩ : ∃ p, ps[k]? = some p := ⟨_, List.getElem?_eq_getElem (by rw [HN.out]; exact hlt)⟩
      obtain ⟨b, off, rfl, hb, _, hc⟩ := HI.out.row (by rw [HN.out]; omega)
      have HC := Lib.hid (hc k p hpk)
      have HPL := Lib.hid (HP.out p (List.mem_of_getElem? hpk))
      have HE := Lib.hid (layAt_rest ps a k p hpk)
      clear hb hc hpk
      have HX : Hid ((a : Int) + (k : Int) = ((a + k : Nat) : Int)) := Lib.hid (by omega)
      have hF : Hid (wr.heap.size ∉ [d, l, m]) := Lib.hid (HI.out.far _ (HI.out.only.size))
      go_wp2_with (first
        | ((with_reducible refine wpList_load_at HC.out HPL.out rfl (.tmp 15) rfl ?_ ?_); (exact rfl))
        | ((with_reducible refine wpList_store_new rfl (.tmp 8) (.tmp 16) rfl rfl ?_ ?_ HPL.out ?_); (exact rfl); (exact rfl); intro W2 hP hB2 hz2; have HI2 := Lib.hid (HI.out.below HST.out hB2); have HP2 := Lib.hid hP; have hr0 := HI2.out.reg.cell 0 _ rfl; clear HI hP hB2 hz2; generalize wr.heap.size = B at HP2 hF ⊢)
        | (with_reducible refine wpList_load_page HP2.out rfl (.tmp 8) rfl rfl ?_))
      rw [HX.out]
      refine (write_any HI2.out.disk _ p HPL.out).mono ?_
      rintro e W3 ⟨rfl, hd3, ho3⟩
      have HI3 := Lib.hid (HI2.out.call HST.out hd3 ho3 (by simp))
      clear HI2 HP2 hr0 hd3 ho3
      by_cases hw : Dk.writeE sk ((a + k : Nat) : Int) = 0
      · have HRW : Hid (Jn.runW s (Jn.layAt a ps) = Jn.runW (Dk.write sk ((a + k : Nat) : Int) p) (Jn.layAt (a + (k + 1)) (ps.drop (k + 1)))) := Lib.hid (by rw [HR.out, HE.out, runW_ok hw])
        rw [hw]
        go_wp2
        go_roundw
        case rel => exact ⟨k + 1, _, by omega, by go_num, HI3.out, HRW.out⟩
        case measure => simp [intOf]; omega
      · have HRW : Hid (Jn.runW s (Jn.layAt a ps) = (Dk.write sk ((a + k : Nat) : Int) p, Dk.writeE sk ((a + k : Nat) : Int))) := Lib.hid (by rw [HR.out, HE.out, runW_bad hw])
        have hne2 : (Dk.writeE sk ((a + k : Nat) : Int) == 0) = false := by simpa using hw
        have hne3 : (Dk.writeE sk ((a + k : Nat) : Int) != 0) = true := by simpa using hw
        generalize Dk.writeE sk ((a + k : Nat) : Int) = E at hne2 hne3 HRW ⊢
        clear hw
        go_wp2
        go_ret
        rw [HRW.out]
        exact ⟨rfl, HI3.out.disk, HI3.out.only⟩
    · obtain rfl : k = n := by omega
      have HRW : Hid (Jn.runW s (Jn.layAt a ps) = (Dk.flush sk, Dk.flushE sk)) := Lib.hid (by rw [HR.out, List.drop_of_length_le (by rw [HN.out]; omega)]; rfl)
      have hr0 := HI.out.reg.cell 0 _ rfl
      go_wp2_with fail
      refine (flush_any HI.out.disk).mono ?_
      rintro e W3 ⟨rfl, hd3, ho3⟩
      have HI3 := Lib.hid (HI.out.call HST.out hd3 ho3 (by simp))
      clear HI hr0 hd3 ho3
      go_wp2
      go_ret
      rw [HRW.out]
      exact ⟨rfl, HI3.out.disk, HI3.out.only⟩
theorem drop_rest (cs : List Chg) (k : Nat) (c : Chg) (h : cs[k]? = some c) : cs.drop k = c :: cs.drop (k + 1) := by
  obtain ⟨hk, he⟩ := List.getElem?_eq_some_iff.1 h
  rw [List.drop_eq_getElem_cons hk, he]
theorem apply_any {w : World} {d l m : Nat} {s : Dk.St} (h : DiskAt w d l m s) (g z : Nat) (A : Option Addr) (c : Nat) (cs : List Chg) (hrow : ChAt w A [d, l, m] cs) (hp : ∀ x ∈ cs, x.page.length = 64) (hl : cs.length ≤ 1000) :
    Calls Tryz.prog 157 #[regV d g z, .slice A cs.length c] w fun e w' => e = .returned (.int .i64 (Jn.runW s cs).2) ∧ DiskAt w' d l m (Jn.runW s cs).1 ∧ Only [d, l, m] w w' := by
  have HS := Lib.hid (putI_start g z h (stays_ch A d l m cs) hrow 170)
  have HP := Lib.hid hp
  have HST := Lib.hid (stays_ch A d l m cs)
  clear h hrow hp
  obtain ⟨n, hn⟩ : ∃ n, cs.length = n := ⟨_, rfl⟩
  have HN := Lib.hid hn
  rw [hn] at hl ⊢
  clear hn
  unfold regV
  go_enter Tryz.func157, Tryz.ntmps157
  go_wp2_with fail
  unfold regVals at HS
  generalize (w.alloc (.cells _ 170)) = w1 at HS ⊢
  generalize hrb : w.heap.size = rb at HS ⊢
  go_loopw [10] (fun i wr => ∃ (k : Nat) (sk : Dk.St), k ≤ n ∧ i = .int .i64 k ∧ PutI w d l m (fun W => ChAt W A [d, l, m] cs) rb g z sk wr ∧ Jn.runW s cs = Jn.runW sk (cs.drop k)) (fun i _ => n - (intOf i).toNat)
  case atStart => exact ⟨0, s, Nat.zero_le _, rfl, HS.out, rfl⟩
  case round =>
    obtain ⟨k, sk, hk, rfl, hput, hrun⟩ := hrel
    have HI := Lib.hid hput
    have HR := Lib.hid hrun
    clear hput hrun HS
    by_cases hlt : k < n
    · obtain ⟨x, hpk⟩ : ∃ x, cs[k]? = some x := ⟨_, List.getElem?_eq_getElem (by rw [HN.out]; exact hlt)⟩
      obtain ⟨b, off, rfl, hb, _, hc⟩ := HI.out.row (by rw [HN.out]; omega)
      have HC := Lib.hid (hc k x hpk)
      have HPL := Lib.hid (HP.out x (List.mem_of_getElem? hpk))
      have HE := Lib.hid (drop_rest cs k x hpk)
      clear hb hc hpk
      have hF : Hid (wr.heap.size ∉ [d, l, m]) := Lib.hid (HI.out.far _ (HI.out.only.size))
      have hzc := zeroChg
      go_wp2_with (first
        | ((with_reducible refine wpList_load_chg HC.out HPL.out rfl (.tmp 12) rfl ?_ ?_); (exact rfl))
        | ((with_reducible refine wpList_store_newchg HPL.out rfl (.tmp 6) (.tmp 13) rfl rfl ?_ chgZero_size ?_); (exact rfl); intro W2 hP hB2 hz2; have HI2 := Lib.hid (HI.out.below HST.out hB2); have HP2 := Lib.hid hP; have hr0 := HI2.out.reg.cell 0 _ rfl; have hv0 := ChVar.no hP; have HV1 := Lib.hid (ChVar.page hP); clear HI hP hB2 hz2; generalize wr.heap.size = B at HP2 hF hv0 HV1 ⊢)
        | ((with_reducible refine wpList_load_at HV1.out HPL.out rfl (.tmp 18) rfl ?_ ?_); (exact rfl)))
      refine (write_any HI2.out.disk _ x.page HPL.out).mono ?_
      rintro e W3 ⟨rfl, hd3, ho3⟩
      have HI3 := Lib.hid (HI2.out.call HST.out hd3 ho3 (by simp))
      clear HI2 HP2 hr0 hd3 ho3 hv0 HV1
      by_cases hw : Dk.writeE sk x.no = 0
      · have HRW : Hid (Jn.runW s cs = Jn.runW (Dk.write sk x.no x.page) (cs.drop (k + 1))) := Lib.hid (by rw [HR.out, HE.out, runW_ok hw])
        rw [hw]
        go_wp2
        go_roundw
        case rel => exact ⟨k + 1, _, by omega, by go_num, HI3.out, HRW.out⟩
        case measure => simp [intOf]; omega
      · have HRW : Hid (Jn.runW s cs = (Dk.write sk x.no x.page, Dk.writeE sk x.no)) := Lib.hid (by rw [HR.out, HE.out, runW_bad hw])
        have hne2 : (Dk.writeE sk x.no == 0) = false := by simpa using hw
        have hne3 : (Dk.writeE sk x.no != 0) = true := by simpa using hw
        generalize Dk.writeE sk x.no = E at hne2 hne3 HRW ⊢
        clear hw
        go_wp2
        go_ret
        rw [HRW.out]
        exact ⟨rfl, HI3.out.disk, HI3.out.only⟩
    · obtain rfl : k = n := by omega
      have HRW : Hid (Jn.runW s cs = (Dk.flush sk, Dk.flushE sk)) := Lib.hid (by rw [HR.out, List.drop_of_length_le (by rw [HN.out]; omega)]; rfl)
      have hr0 := HI.out.reg.cell 0 _ rfl
      go_wp2_with fail
      refine (flush_any HI.out.disk).mono ?_
      rintro e W3 ⟨rfl, hd3, ho3⟩
      have HI3 := Lib.hid (HI.out.call HST.out hd3 ho3 (by simp))
      clear HI hr0 hd3 ho3
      go_wp2
      go_ret
      rw [HRW.out]
      exact ⟨rfl, HI3.out.disk, HI3.out.only⟩
end

section
open Go.RowKit
open Dk (zeros zeros_length)
open Hd (Head rightB pageH)
open Jn (Chg)
structure MarkAt (w : World) (b : Nat) (f : Nat → Bool) : Prop where
  cell : ∀ i, i < 512 → w.cell? ⟨b, i, none⟩ = some (.bool (f i))
  free : ∀ i, i < 512 → w.frozen? ⟨b, i, none⟩ = false
def mark (f : Nat → Bool) (j : Nat) : Nat → Bool := fun i => i == j || f i
theorem MarkAt.block {w w' : World} {b : Nat} {f : Nat → Bool} (h : MarkAt w b f) (hb : w'.heap[b]? = w.heap[b]?) : MarkAt w' b f :=
  ⟨fun i hi => (World.cell?_of_block (w := w) (a := ⟨b, i, none⟩) hb).trans (h.cell i hi), fun i hi => (World.frozen?_of_block (w := w) (a := ⟨b, i, none⟩) hb).trans (h.free i hi)⟩
theorem MarkAt.lt {w : World} {b : Nat} {f : Nat → Bool} (h : MarkAt w b f) : b < w.heap.size := World.block_lt_of_cell? w _ (h.cell 0 (by omega))
theorem MarkAt.below {w w' : World} {b : Nat} {f : Nat → Bool} (h : MarkAt w b f) (hb : Below w.heap.size w w') : MarkAt w' b f := h.block (hb.block b h.lt)
theorem MarkAt.set {w : World} {b : Nat} {f : Nat → Bool} (h : MarkAt w b f) (j : Nat) (hj : j < 512) : MarkAt (w.setCell ⟨b, j, none⟩ (.bool true)) b (mark f j) where
  cell := fun i hi => by
    by_cases e : j = i
    · subst e
      rw [World.cell?_setCell_same' _ _ _ (by rw [h.cell j hj]; rfl)]
      simp [mark]
    · rw [World.cell?_setCell_other _ _ _ _ (fun q => e (by injection q)), h.cell i hi]
      have : (i == j) = false := by simpa using fun q => e q.symm
      simp [mark, this]
  free := fun i hi => by rw [World.frozen?_setCell]; exact h.free i hi
def noMarks : Array Value := (List.replicate 512 (Value.bool false)).toArray
theorem noMarks_zero (w : World) : (zeroValue 184).run Tryz.prog w = .ok (.agg noMarks) w := by kernel_rfl
theorem markAt_new (w : World) (t : TypeId) : MarkAt (w.alloc (.cells noMarks t)) w.heap.size (fun _ => false) where
  cell := fun i hi => by
    rw [World.cell?_alloc_mark]
    unfold noMarks
    rw [List.getElem?_toArray, List.getElem?_replicate, if_pos hi]
  free := fun i hi => by
    rw [World.frozen?_alloc_mark]
    simp
def takesFrom (n a z : Nat) : (Nat → Bool) → List Chg → Bool
  | _, [] => true
  | f, c :: r => if otherB n a z c.no = true ∧ f c.no.toNat = false then takesFrom n a z (mark f c.no.toNat) r else false
def takesB (n a z : Nat) (cs : List Chg) : Bool := takesFrom n a z (fun _ => false) cs
structure TakI (w : World) (d l m : Nat) (s : Dk.St) (A : Option Addr) (cs : List Chg) (r a z t : Nat) (f : Nat → Bool) (W : World) : Prop where
  disk : DiskAt W d l m s
  row : ChAt W A [] cs
  reg : RowAt W r (regVals d a z)
  marks : MarkAt W t f
  fresh : w.heap.size ≤ t
  apart : t ≠ r
  old : d < w.heap.size ∧ l < w.heap.size ∧ m < w.heap.size
  rowold : ∀ b off, 0 < cs.length → A = some ⟨b, off, none⟩ → b < w.heap.size
  below : Below w.heap.size w W
theorem TakI.call {w : World} {d l m : Nat} {s : Dk.St} {A : Option Addr} {cs : List Chg} {r a z t : Nat} {f : Nat → Bool} {W W' : World} (h : TakI w d l m s A cs r a z t f W) (hb : Below W.heap.size W W') : TakI w d l m s A cs r a z t f W' :=
  ⟨h.disk.below hb, h.row.below hb, h.reg.below hb h.reg.lt, h.marks.below hb, h.fresh, h.apart, h.old, h.rowold, h.below.trans (hb.mono h.below.size)⟩
theorem TakI.set {w : World} {d l m : Nat} {s : Dk.St} {A : Option Addr} {cs : List Chg} {r a z t : Nat} {f : Nat → Bool} {W : World} (h : TakI w d l m s A cs r a z t f W) (j : Nat) (hj : j < 512) : TakI w d l m s A cs r a z t (mark f j) (W.setCell ⟨t, j, none⟩ (.bool true)) := by
  have ho : Only [t] W (W.setCell ⟨t, j, none⟩ (.bool true)) := (Only.refl _ _).setCell (by simp) _
  have hf := h.fresh
  have hold := h.old
  exact { disk := h.disk.only ho (by simp; omega) (by simp; omega) (by simp; omega)
          row := fun h0 => by
            obtain ⟨b, off, e, h1, h2, h3⟩ := h.row h0
            have := h.rowold b off h0 e
            exact ⟨b, off, e, by have := ho.size; omega, h2, fun i x hx k v hv => (ho.cell (p := ⟨b, off + i * 65 + k, none⟩) h1 (by simp; omega)).trans (h3 i x hx k v hv)⟩
          reg := h.reg.only ho (by simp; exact Ne.symm h.apart)
          marks := h.marks.set j hj
          fresh := h.fresh, apart := h.apart, old := h.old, rowold := h.rowold
          below := h.below.setCell (by exact h.fresh) _ }
theorem takI_start {w : World} {d l m : Nat} {s : Dk.St} {A : Option Addr} {cs : List Chg} (a z : Nat) (h : DiskAt w d l m s) (hrow : ChAt w A [] cs) (t1 t2 : TypeId) :
    TakI w d l m s A cs w.heap.size a z (w.heap.size + 1) (fun _ => false) ((w.alloc (.cells (regVals d a z).toArray t1)).alloc (.cells noMarks t2)) where
  disk := (h.alloc _).alloc _
  row := (hrow.below ((Below.refl _ _).alloc (Nat.le_refl _) _)).below ((Below.refl _ _).alloc (Nat.le_refl _) _)
  reg := (rowAt_new w _ t1).alloc _
  marks := by simpa using markAt_new (w.alloc (.cells (regVals d a z).toArray t1)) t2
  fresh := by omega
  apart := by omega
  old := ⟨h.dlt, h.llt, h.mlt⟩
  rowold := fun b off h0 e => by
    obtain ⟨b', off', e', h1, _⟩ := hrow h0
    rw [e] at e'
    injection e' with e'
    injection e' with e1
    omega
  below := ((Below.refl _ _).alloc (Nat.le_refl _) _).alloc (by simp) _
theorem takes_ok {n a z : Nat} {f : Nat → Bool} {c : Chg} {r : List Chg} (h1 : otherB n a z c.no = true) (h2 : f c.no.toNat = false) : takesFrom n a z f (c :: r) = takesFrom n a z (mark f c.no.toNat) r := by rw [takesFrom, if_pos ⟨h1, h2⟩]
theorem takes_bad {n a z : Nat} {f : Nat → Bool} {c : Chg} {r : List Chg} (h : ¬ (otherB n a z c.no = true ∧ f c.no.toNat = false)) : takesFrom n a z f (c :: r) = false := by rw [takesFrom, if_neg h]
theorem takes_any {w : World} {d l m : Nat} {s : Dk.St} (h : DiskAt w d l m s) (a z : Nat) (ha : a ≤ 1000) (hz : z ≤ 1000) (A : Option Addr) (c : Nat) (cs : List Chg) (hrow : ChAt w A [] cs) (hp : ∀ x ∈ cs, x.page.length = 64) (hl : cs.length ≤ 1000) :
    Calls Tryz.prog 136 #[regV d a z, .slice A cs.length c] w fun e w' => e = .returned (.bool (takesB s.last.length a z cs)) ∧ Below w.heap.size w w' := by
  have HS := Lib.hid (takI_start a z h hrow 170 184)
  have HP := Lib.hid hp
  have hsm := h.ok.small
  clear h hrow hp
  obtain ⟨n, hn⟩ : ∃ n, cs.length = n := ⟨_, rfl⟩
  have HN := Lib.hid hn
  rw [hn] at hl ⊢
  clear hn
  unfold regV
  have hz80 := noMarks_zero
  go_enter Tryz.func136, Tryz.ntmps136
  go_wp2_with fail
  unfold regVals at HS
  generalize ((w.alloc (.cells _ 170)).alloc (.cells noMarks 184)) = w1 at HS ⊢
  generalize hrb : w.heap.size = rb at HS ⊢
  go_loopw [10] (fun i wr => ∃ (k : Nat) (f : Nat → Bool), k ≤ n ∧ i = .int .i64 k ∧ TakI w d l m s A cs rb a z (rb + 1) f wr ∧ takesB s.last.length a z cs = takesFrom s.last.length a z f (cs.drop k)) (fun i _ => n - (intOf i).toNat)
  case atStart => exact ⟨0, _, Nat.zero_le _, rfl, HS.out, rfl⟩
  case round =>
    obtain ⟨k, f, hk, rfl, hput, hrun⟩ := hrel
    have HI := Lib.hid hput
    have HR := Lib.hid hrun
    clear hput hrun HS
    by_cases hlt : k < n
    · obtain ⟨x, hpk⟩ : ∃ x, cs[k]? = some x := ⟨_, List.getElem?_eq_getElem (by rw [HN.out]; exact hlt)⟩
      obtain ⟨b, off, rfl, hb, _, hc⟩ := HI.out.row (by rw [HN.out]; omega)
      have HC := Lib.hid (hc k x hpk)
      have HPL := Lib.hid (HP.out x (List.mem_of_getElem? hpk))
      have HE := Lib.hid (drop_rest cs k x hpk)
      clear hb hc hpk
      have hzc := zeroChg
      go_wp2_with (first
        | ((with_reducible refine wpList_load_chg HC.out HPL.out rfl (.tmp 12) rfl ?_ ?_); (exact rfl))
        | ((with_reducible refine wpList_store_newchg HPL.out rfl (.tmp 7) (.tmp 13) rfl rfl ?_ chgZero_size ?_); (exact rfl); intro W2 hP hB2 hz2; have HI2 := Lib.hid (HI.out.call hB2); have HP2 := Lib.hid hP; have hv0 := ChVar.no hP; clear HI hP hB2 hz2; generalize wr.heap.size = B at HP2 hv0 ⊢)
        | (with_reducible refine wpList_load_reg HI2.out.reg.range rfl (.tmp 2) rfl rfl ?_))
      refine (other_any HI2.out.disk a z ha hz x.no).mono ?_
      rintro e W3 ⟨rfl, hb3⟩
      have HI3 := Lib.hid (HI2.out.call hb3)
      have HP3 := Lib.hid (RowAt.below HP2.out hb3 (RowAt.lt HP2.out))
      have hv3 := ChVar.no HP3.out
      clear HI2 HP2 hb3 hv0
      by_cases ho : otherB s.last.length a z x.no = true
      · have hoo : 0 ≤ x.no ∧ x.no < (s.last.length : Int) ∧ (x.no < (a : Int) ∨ (a : Int) + (z : Int) ≤ x.no) := of_decide_eq_true ho
        obtain ⟨j, hj⟩ : ∃ j : Nat, x.no = (j : Int) := ⟨x.no.toNat, by omega⟩
        have hj512 : j < 512 := by omega
        have HT : Hid (x.no.toNat = j) := Lib.hid (by omega)
        have HOT := Lib.hid ho
        rw [ho]
        clear hoo ho
        rw [hj] at hv3
        have hm3 := HI3.out.marks.cell j hj512
        have hf3 := HI3.out.marks.free j hj512
        clear hj
        cases hfj : f j with
        | true =>
          have HRW : Hid (takesB s.last.length a z cs = false) := Lib.hid (by rw [HR.out, HE.out, takes_bad (by rw [HT.out, hfj]; simp)])
          rw [hfj] at hm3
          go_wp2
          go_ret
          exact ⟨by rw [HRW.out]; rfl, HI3.out.below⟩
        | false =>
          have HRW : Hid (takesB s.last.length a z cs = takesFrom s.last.length a z (mark f j) (cs.drop (k + 1))) := Lib.hid (by rw [HR.out, HE.out, takes_ok HOT.out (by rw [HT.out, hfj]), HT.out])
          rw [hfj] at hm3
          go_wp2
          go_roundw
          case rel => exact ⟨k + 1, _, by omega, by go_num, HI3.out.set j hj512, HRW.out⟩
          case measure => simp [intOf]; omega
      · have HRW : Hid (takesB s.last.length a z cs = false) := Lib.hid (by rw [HR.out, HE.out, takes_bad (fun q => ho q.1)])
        have ho' : otherB s.last.length a z x.no = false := by simpa using ho
        rw [ho']
        clear ho ho'
        go_wp2
        go_ret
        exact ⟨by rw [HRW.out]; rfl, HI3.out.below⟩
    · obtain rfl : k = n := by omega
      have HRW : Hid (takesB s.last.length a z cs = true) := Lib.hid (by rw [HR.out, List.drop_of_length_le (by rw [HN.out]; omega)]; rfl)
      go_wp2_with fail
      go_ret
      exact ⟨by rw [HRW.out]; rfl, HI.out.below⟩
end
end Go.Proofs.YtncmihikpcdgoaaGreat
