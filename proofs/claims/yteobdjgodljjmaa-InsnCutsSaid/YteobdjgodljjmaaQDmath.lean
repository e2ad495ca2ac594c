/-
  Plain mathematics of a disk: what lasts, what is in the cache, the fuse; what each call makes of them. Nothing of the program is in it.
-/
namespace Go.Proofs.Yteobdjgodljjmaa.Pq.Dk

/-- a disk: what lasts; what is in the cache; the fuse; whether it is down -/
structure St where
  last : List (List UInt8)
  cache : List (Option (List UInt8))
  lim : Bool
  left : Int
  down : Bool

structure St.Ok (s : St) : Prop where
  same : s.cache.length = s.last.length
  pos : 1 ≤ s.last.length
  small : s.last.length ≤ 512
  pages : ∀ p ∈ s.last, p.length = 64
  cpages : ∀ p, some p ∈ s.cache → p.length = 64
  lo : -9223372036854775808 ≤ s.left
  hi : s.left ≤ 9223372036854775807
  live : s.lim = true → 0 ≤ s.left

/-- the page of zeros -/
def zeros : List UInt8 := List.replicate 64 0
theorem zeros_length : zeros.length = 64 := List.length_replicate

/-- is there such a page? -/
def hasB (n : Nat) (i : Int) : Bool := decide (0 ≤ i ∧ i < (n : Int))
theorem has_yes {n : Nat} {i : Int} (h : hasB n i = true) : 0 ≤ i ∧ i < (n : Int) := of_decide_eq_true h
theorem has_no {n : Nat} {i : Int} (h : hasB n i = false) : ¬ (0 ≤ i ∧ i < (n : Int)) := of_decide_eq_false h
theorem has_mk {n k : Nat} (h : k < n) : hasB n (k : Int) = true := decide_eq_true ⟨by omega, by omega⟩

def reachE (s : St) (i : Int) : Int := if s.down = true then 5 else if hasB s.last.length i = true then 0 else 22
def spendE (s : St) : Int := if s.lim = true ∧ s.left = 0 then 5 else 0
def spend (s : St) : St := if s.lim = true then (if s.left = 0 then { s with down := true } else { s with left := s.left - 1 }) else s
def put (s : St) (i : Nat) (p : List UInt8) : St := { s with cache := s.cache.set i (some p) }
def writeE (s : St) (i : Int) : Int := if reachE s i = 0 then spendE s else reachE s i
def write (s : St) (i : Int) (p : List UInt8) : St := if reachE s i = 0 then (if spendE s = 0 then put (spend s) i.toNat p else spend s) else s
def lastAt (s : St) (i : Nat) : List UInt8 := s.last.getD i []
def cacheAt (s : St) (i : Nat) : Option (List UInt8) := s.cache.getD i none
def nowAt (s : St) (i : Nat) : List UInt8 := (cacheAt s i).getD (lastAt s i)
def readP (s : St) (i : Int) : List UInt8 := if reachE s i = 0 then nowAt s i.toNat else zeros
def lastsP (s : St) (i : Int) : List UInt8 := if hasB s.last.length i = true then lastAt s i.toNat else zeros
def flushed (s : St) : St := { s with last := (List.range s.last.length).map (nowAt s), cache := List.replicate s.last.length none }
def flushE (s : St) : Int := if s.down = true then 5 else spendE s
def flush (s : St) : St := if s.down = true then s else if spendE s = 0 then flushed (spend s) else spend s
def fuse (s : St) (k : Int) : St := { s with lim := decide (0 ≤ k), left := k }
def torn (old new : List UInt8) (c : UInt8) : List UInt8 := new.take (c.toNat % 65) ++ old.drop (c.toNat % 65)
/-- one page of a crash: what lasts so far, the choices that are left -/
def crashOne (s : St) (i : Nat) (x : List (List UInt8) × List UInt8) : List (List UInt8) × List UInt8 :=
  match cacheAt s i, x.2 with
  | some p, c :: r => (x.1.set i (torn (lastAt s i) p c), r)
  | _, _ => x
def crashTo (s : St) (keep : List UInt8) : Nat → List (List UInt8) × List UInt8
  | 0 => (s.last, keep)
  | k + 1 => crashOne s k (crashTo s keep k)
def crash (s : St) (keep : List UInt8) : St := { last := (crashTo s keep s.last.length).1, cache := List.replicate s.last.length none, lim := false, left := 0, down := false }
def count (s : St) : Nat := s.cache.countP (·.isSome)
def fresh (n : Nat) : St := { last := List.replicate n zeros, cache := List.replicate n none, lim := false, left := 0, down := false }

theorem reach_zero {s : St} {i : Int} (h : reachE s i = 0) : s.down = false ∧ hasB s.last.length i = true := by
  unfold reachE at h
  by_cases c : s.down = true
  · rw [if_pos c] at h; omega
  · rw [if_neg c] at h
    by_cases e : hasB s.last.length i = true
    · exact ⟨by simpa using c, e⟩
    · rw [if_neg e] at h; omega
theorem reach_mk {s : St} {i : Int} (h1 : s.down = false) (h2 : hasB s.last.length i = true) : reachE s i = 0 := by
  unfold reachE; rw [h1, h2]; rfl
theorem reach_vals (s : St) (i : Int) : reachE s i = 0 ∨ reachE s i = 5 ∨ reachE s i = 22 := by
  unfold reachE
  by_cases c : s.down = true
  · rw [if_pos c]; omega
  · rw [if_neg c]
    by_cases e : hasB s.last.length i = true
    · rw [if_pos e]; omega
    · rw [if_neg e]; omega
theorem spend_vals (s : St) : spendE s = 0 ∨ spendE s = 5 := by
  unfold spendE
  by_cases c : s.lim = true ∧ s.left = 0
  · rw [if_pos c]; omega
  · rw [if_neg c]; omega

theorem lastAt_len {s : St} (h : s.Ok) {i : Nat} (hi : i < s.last.length) : (lastAt s i).length = 64 := by
  unfold lastAt
  rw [List.getD_eq_getElem?_getD, List.getElem?_eq_getElem hi]
  exact h.pages _ (List.getElem_mem hi)
theorem cacheAt_len {s : St} (h : s.Ok) {i : Nat} {p : List UInt8} (hp : cacheAt s i = some p) : p.length = 64 := by
  unfold cacheAt at hp
  rw [List.getD_eq_getElem?_getD] at hp
  by_cases hi : i < s.cache.length
  · rw [List.getElem?_eq_getElem hi] at hp
    exact h.cpages p (by rw [← hp]; exact List.getElem_mem hi)
  · rw [List.getElem?_eq_none (by omega)] at hp; cases hp
theorem nowAt_len {s : St} (h : s.Ok) {i : Nat} (hi : i < s.last.length) : (nowAt s i).length = 64 := by
  unfold nowAt
  cases hc : cacheAt s i with
  | none => exact lastAt_len h hi
  | some p => exact cacheAt_len h hc
theorem readP_len {s : St} (h : s.Ok) (i : Int) : (readP s i).length = 64 := by
  unfold readP
  by_cases c : reachE s i = 0
  · rw [if_pos c]
    have := has_yes (reach_zero c).2
    exact nowAt_len h (by omega)
  · rw [if_neg c]; exact zeros_length
theorem lastsP_len {s : St} (h : s.Ok) (i : Int) : (lastsP s i).length = 64 := by
  unfold lastsP
  by_cases c : hasB s.last.length i = true
  · rw [if_pos c]
    have := has_yes c
    exact lastAt_len h (by omega)
  · rw [if_neg c]; exact zeros_length
theorem torn_len {old new : List UInt8} (c : UInt8) (h1 : old.length = 64) (h2 : new.length = 64) : (torn old new c).length = 64 := by
  unfold torn
  rw [List.length_append, List.length_take, List.length_drop, h1, h2]
  have : c.toNat % 65 < 65 := Nat.mod_lt _ (by omega)
  omega

theorem spend_last (s : St) : (spend s).last = s.last := by unfold spend; split <;> (try split) <;> rfl
theorem spend_cache (s : St) : (spend s).cache = s.cache := by unfold spend; split <;> (try split) <;> rfl
theorem spend_lim (s : St) : (spend s).lim = s.lim := by unfold spend; split <;> (try split) <;> rfl
theorem spend_ok {s : St} (h : s.Ok) : (spend s).Ok := by
  unfold spend
  split
  · rename_i hl
    have := h.live hl
    split
    · exact ⟨h.same, h.pos, h.small, h.pages, h.cpages, h.lo, h.hi, h.live⟩
    · rename_i hn
      exact ⟨h.same, h.pos, h.small, h.pages, h.cpages, by show _ ≤ s.left - 1; omega, by show s.left - 1 ≤ _; have := h.hi; omega, fun _ => by show 0 ≤ s.left - 1; omega⟩
  · exact h
theorem put_ok {s : St} (h : s.Ok) (i : Nat) {p : List UInt8} (hp : p.length = 64) : (put s i p).Ok where
  same := by unfold put; rw [List.length_set]; exact h.same
  pos := h.pos
  small := h.small
  pages := h.pages
  cpages := fun q hq => by
    rcases List.mem_or_eq_of_mem_set hq with h1 | h1
    · exact h.cpages q h1
    · injection h1 with h1; rw [h1]; exact hp
  lo := h.lo
  hi := h.hi
  live := h.live
theorem write_ok {s : St} (h : s.Ok) (i : Int) {p : List UInt8} (hp : p.length = 64) : (write s i p).Ok := by
  unfold write
  split
  · split
    · exact put_ok (spend_ok h) _ hp
    · exact spend_ok h
  · exact h
theorem flushed_ok {s : St} (h : s.Ok) : (flushed s).Ok where
  same := by unfold flushed; simp
  pos := by unfold flushed; simpa using h.pos
  small := by unfold flushed; simpa using h.small
  pages := fun p hp => by
    obtain ⟨i, hi, rfl⟩ := List.mem_map.1 hp
    exact nowAt_len h (List.mem_range.1 hi)
  cpages := fun p hp => by
    have := List.eq_of_mem_replicate hp
    cases this
  lo := h.lo
  hi := h.hi
  live := h.live
theorem flush_ok {s : St} (h : s.Ok) : (flush s).Ok := by
  unfold flush
  split
  · exact h
  · split
    · exact flushed_ok (spend_ok h)
    · exact spend_ok h
theorem fuse_ok {s : St} (h : s.Ok) (k : Int) (h1 : -9223372036854775808 ≤ k) (h2 : k ≤ 9223372036854775807) : (fuse s k).Ok :=
  ⟨h.same, h.pos, h.small, h.pages, h.cpages, h1, h2, fun e => of_decide_eq_true e⟩
theorem crashOne_some {s : St} {i : Nat} {x : List (List UInt8) × List UInt8} {p : List UInt8} {c : UInt8} {r : List UInt8} (h1 : cacheAt s i = some p) (h2 : x.2 = c :: r) : crashOne s i x = (x.1.set i (torn (lastAt s i) p c), r) := by
  unfold crashOne; rw [h1, h2]
theorem crashOne_none {s : St} {i : Nat} {x : List (List UInt8) × List UInt8} (h1 : cacheAt s i = none) : crashOne s i x = x := by
  unfold crashOne; rw [h1]
theorem crashOne_nil {s : St} {i : Nat} {x : List (List UInt8) × List UInt8} (h1 : x.2 = []) : crashOne s i x = x := by
  unfold crashOne; rw [h1]; cases cacheAt s i <;> rfl
theorem crashOne_cases (s : St) (i : Nat) (x : List (List UInt8) × List UInt8) : crashOne s i x = x ∨ ∃ p c r, cacheAt s i = some p ∧ x.2 = c :: r ∧ crashOne s i x = (x.1.set i (torn (lastAt s i) p c), r) := by
  cases h1 : cacheAt s i with
  | none => exact Or.inl (crashOne_none h1)
  | some p =>
    cases h2 : x.2 with
    | nil => exact Or.inl (crashOne_nil h2)
    | cons c r => exact Or.inr ⟨p, c, r, rfl, rfl, crashOne_some h1 h2⟩
theorem crashTo_len (s : St) (keep : List UInt8) : ∀ k, (crashTo s keep k).1.length = s.last.length
  | 0 => rfl
  | k + 1 => by
    rw [crashTo]
    rcases crashOne_cases s k (crashTo s keep k) with e | ⟨p, c, r, _, _, e⟩
    · rw [e]; exact crashTo_len s keep k
    · rw [e, List.length_set]; exact crashTo_len s keep k
theorem crashTo_pages {s : St} (h : s.Ok) (keep : List UInt8) : ∀ k, k ≤ s.last.length → ∀ p ∈ (crashTo s keep k).1, p.length = 64
  | 0, _ => h.pages
  | k + 1, hk => by
    rw [crashTo]
    rcases crashOne_cases s k (crashTo s keep k) with e | ⟨p, c, r, hp, _, e⟩
    · rw [e]; exact crashTo_pages h keep k (by omega)
    · rw [e]
      intro q hq
      rcases List.mem_or_eq_of_mem_set hq with h1 | h1
      · exact crashTo_pages h keep k (by omega) q h1
      · rw [h1]; exact torn_len c (lastAt_len h (by omega)) (cacheAt_len h hp)
/-- what lies behind is as it was -/
theorem crashTo_behind (s : St) (keep : List UInt8) : ∀ k i, k ≤ i → (crashTo s keep k).1[i]? = s.last[i]?
  | 0, _, _ => rfl
  | k + 1, i, hi => by
    rw [crashTo]
    rcases crashOne_cases s k (crashTo s keep k) with e | ⟨p, c, r, _, _, e⟩
    · rw [e]; exact crashTo_behind s keep k i (by omega)
    · rw [e, List.getElem?_set, if_neg (by omega)]; exact crashTo_behind s keep k i (by omega)
theorem crashTo_nil (s : St) (keep : List UInt8) (k : Nat) (h : (crashTo s keep k).2 = []) : ∀ j, crashTo s keep (k + j) = crashTo s keep k
  | 0 => rfl
  | j + 1 => by
    have ih := crashTo_nil s keep k h j
    show crashOne s (k + j) (crashTo s keep (k + j)) = _
    rw [ih, crashOne_nil h]
theorem crashTo_suffix (s : St) (keep : List UInt8) : ∀ k, ∃ j, j ≤ keep.length ∧ (crashTo s keep k).2 = keep.drop j
  | 0 => ⟨0, Nat.zero_le _, rfl⟩
  | k + 1 => by
    obtain ⟨j, hj, e⟩ := crashTo_suffix s keep k
    rw [crashTo]
    rcases crashOne_cases s k (crashTo s keep k) with e1 | ⟨p, c, r, _, e2, e1⟩
    · rw [e1]; exact ⟨j, hj, e⟩
    · rw [e1]
      refine ⟨j + 1, ?_, ?_⟩
      · have : (keep.drop j).length = r.length + 1 := by rw [← e, e2]; rfl
        rw [List.length_drop] at this; omega
      · show r = _
        rw [← List.tail_drop, ← e, e2]; rfl
theorem crash_ok {s : St} (h : s.Ok) (keep : List UInt8) : (crash s keep).Ok where
  same := by unfold crash; simp [crashTo_len]
  pos := by unfold crash; simpa [crashTo_len] using h.pos
  small := by unfold crash; simpa [crashTo_len] using h.small
  pages := crashTo_pages h keep _ (Nat.le_refl _)
  cpages := fun p hp => by
    have := List.eq_of_mem_replicate hp
    cases this
  lo := by show _ ≤ (0 : Int); omega
  hi := by show (0 : Int) ≤ _; omega
  live := fun e => by cases e
theorem fresh_ok {n : Nat} (h1 : 1 ≤ n) (h2 : n ≤ 512) : (fresh n).Ok where
  same := by unfold fresh; simp
  pos := by unfold fresh; simpa using h1
  small := by unfold fresh; simpa using h2
  pages := fun p hp => by rw [List.eq_of_mem_replicate hp]; exact zeros_length
  cpages := fun p hp => by
    have := List.eq_of_mem_replicate hp
    cases this
  lo := by show _ ≤ (0 : Int); omega
  hi := by show (0 : Int) ≤ _; omega
  live := fun e => by cases e
theorem count_le (s : St) : count s ≤ s.cache.length := List.countP_le_length
theorem write_len (s : St) (i : Int) (p : List UInt8) : (write s i p).last.length = s.last.length := by
  unfold write
  split
  · split
    · show (put (spend s) _ p).last.length = _; unfold put; rw [spend_last]
    · rw [spend_last]
  · rfl
theorem flush_len (s : St) : (flush s).last.length = s.last.length := by
  unfold flush
  split
  · rfl
  · split
    · unfold flushed; simp [spend_last]
    · rw [spend_last]
theorem crash_len (s : St) (keep : List UInt8) : (crash s keep).last.length = s.last.length := crashTo_len _ _ _
end Go.Proofs.Yteobdjgodljjmaa.Pq.Dk
