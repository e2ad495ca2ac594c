/-
  Plain mathematics of maps: entries in order, what a Put leaves, and what the last Puts into an Lru leave.
-/
namespace Go.Proofs.Ytkomehplcacbcaa.Z

/-- an entry: a key and four words -/
structure En where
  key : Int
  a : Int
  b : Int
  c : Int
  d : Int
deriving DecidableEq

def has (k : Int) (l : List En) : Bool := l.any (fun e => e.key == k)
def drop (k : Int) (l : List En) : List En := l.filter (fun e => e.key != k)
def find (k : Int) (l : List En) : Option En := l.find? (fun e => e.key == k)
/-- the entries behind a Put, and the error -/
def putL (lru : Bool) (room : Nat) (l : List En) (e : En) : List En :=
  if has e.key l then (if lru then drop e.key l ++ [e] else l.map (fun x => if x.key == e.key then e else x))
  else if l.length = room then (if lru then l.tail ++ [e] else l)
  else l ++ [e]
def putE (lru : Bool) (room : Nat) (l : List En) (e : En) : Int := if !has e.key l && decide (l.length = room) && !lru then 28 else 0
def useL (lru : Bool) (l : List En) (k : Int) : List En := match find k l with
  | some e => if lru then drop k l ++ [e] else l
  | none => l

theorem has_iff (k : Int) (l : List En) : has k l = true ↔ ∃ e ∈ l, e.key = k := by
  unfold has; simp [List.any_eq_true]
theorem has_not (k : Int) (l : List En) : has k l = false ↔ ∀ e ∈ l, e.key ≠ k := by
  rw [← Bool.not_eq_true, has_iff]; simp
theorem drop_no {k : Int} {l : List En} (h : has k l = false) : drop k l = l := by
  unfold drop
  rw [List.filter_eq_self]
  intro e he
  have := (has_not k l).1 h e he
  simpa using this
theorem has_rev (k : Int) (l : List En) : has k l.reverse = has k l := by unfold has; rw [List.any_reverse]
theorem drop_rev (k : Int) (l : List En) : drop k l.reverse = (drop k l).reverse := by unfold drop; rw [List.filter_reverse]

/-! ### no key twice -/
def keys (l : List En) : List Int := l.map En.key
def Uniq (l : List En) : Prop := (keys l).Nodup
theorem uniq_nil : Uniq [] := List.nodup_nil
theorem uniq_cons {e : En} {l : List En} : Uniq (e :: l) ↔ has e.key l = false ∧ Uniq l := by
  unfold Uniq keys
  rw [List.map_cons, List.nodup_cons, has_not]
  constructor
  · rintro ⟨h1, h2⟩
    exact ⟨fun x hx he => h1 (List.mem_map.2 ⟨x, hx, he⟩), h2⟩
  · rintro ⟨h1, h2⟩
    refine ⟨fun hm => ?_, h2⟩
    obtain ⟨x, hx, he⟩ := List.mem_map.1 hm
    exact h1 x hx he
theorem uniq_drop {l : List En} (h : Uniq l) (k : Int) : Uniq (drop k l) := by
  unfold Uniq keys drop at *
  exact h.sublist (List.filter_sublist.map _)
theorem has_drop (k j : Int) (l : List En) : has j (drop k l) = (has j l && j != k) := by
  rw [Bool.eq_iff_iff, has_iff, Bool.and_eq_true, has_iff]
  unfold drop
  constructor
  · rintro ⟨e, he, rfl⟩
    rw [List.mem_filter] at he
    exact ⟨⟨e, he.1, rfl⟩, by simpa using he.2⟩
  · rintro ⟨⟨e, he, rfl⟩, hk⟩
    exact ⟨e, List.mem_filter.2 ⟨he, by simpa using hk⟩, rfl⟩
theorem uniq_rev {l : List En} (h : Uniq l) : Uniq l.reverse := by
  unfold Uniq keys at *
  rw [List.map_reverse]
  unfold List.Nodup at *
  rw [List.pairwise_reverse]
  exact h.imp (fun h e => h e.symm)
theorem uniq_take {l : List En} (h : Uniq l) (n : Nat) : Uniq (l.take n) := by
  unfold Uniq keys at *
  rw [List.map_take]
  exact h.sublist (List.take_sublist _ _)

/-! ### the last of each key, the newest first -/
def dd : List En → List En
  | [] => []
  | x :: r => x :: drop x.key (dd r)
theorem uniq_dd : ∀ l : List En, Uniq (dd l)
  | [] => uniq_nil
  | x :: r => by
    rw [dd, uniq_cons]
    exact ⟨by rw [has_drop]; simp, uniq_drop (uniq_dd r) _⟩
theorem take_drop_key (k : Int) : ∀ (l : List En) (m : Nat), Uniq l → (drop k l).take m = if has k (l.take (m + 1)) then drop k (l.take (m + 1)) else l.take m
  | [], m, _ => by simp [drop, has]
  | x :: r, 0, _ => by
    rw [List.take_zero, List.take_succ_cons, List.take_zero]
    by_cases h : x.key = k
    · simp [has, drop, h]
    · simp [has, h]
  | x :: r, m + 1, hu => by
    obtain ⟨hx, hr⟩ := uniq_cons.1 hu
    by_cases h : x.key = k
    · subst h
      have h1 : has x.key ((x :: r).take (m + 1 + 1)) = true := by unfold has; simp
      rw [if_pos h1, List.take_succ_cons]
      have e1 : drop x.key (x :: r) = drop x.key r := by unfold drop; simp
      have e2 : drop x.key (x :: r.take (m + 1)) = drop x.key (r.take (m + 1)) := by unfold drop; simp
      rw [e1, e2, drop_no hx, drop_no]
      rw [has_not] at hx ⊢
      exact fun e he => hx e (List.mem_of_mem_take he)
    · have e1 : drop k (x :: r) = x :: drop k r := by unfold drop; simp [h]
      have e2 : has k ((x :: r).take (m + 1 + 1)) = has k (r.take (m + 1)) := by unfold has; simp [h]
      have e3 : drop k ((x :: r).take (m + 1 + 1)) = x :: drop k (r.take (m + 1)) := by rw [List.take_succ_cons]; unfold drop; simp [h]
      rw [e1, e2, e3, List.take_succ_cons, List.take_succ_cons, take_drop_key k r m hr]
      split <;> rfl
/-- what an Lru holds behind Puts -/
def puts (n : Nat) (es : List En) : List En := es.foldl (fun l e => putL true n l e) []
theorem puts_snoc (n : Nat) (es : List En) (e : En) : puts n (es ++ [e]) = putL true n (puts n es) e := by unfold puts; rw [List.foldl_append]; rfl
theorem puts_is (n : Nat) (hn : 1 ≤ n) (es : List En) : (puts n es).reverse = (dd es.reverse).take n := by
  suffices h : ∀ (m : Nat) (es : List En), es.length = m → (puts n es).reverse = (dd es.reverse).take n from h _ es rfl
  intro m
  induction m with
  | zero => intro es h; rw [List.length_eq_zero_iff.1 h]; simp [puts, dd]
  | succ m ih =>
    intro es h
    obtain ⟨e, t, rfl⟩ : ∃ e t, es = t ++ [e] := ⟨es.getLast (by intro e; rw [e] at h; simp at h), es.dropLast, (List.dropLast_concat_getLast _).symm⟩
    have hi := ih t (by simpa using h)
    obtain ⟨k, rfl⟩ : ∃ k, n = k + 1 := ⟨n - 1, by omega⟩
    rw [puts_snoc, List.reverse_append, List.reverse_singleton, List.singleton_append, dd, List.take_succ_cons, take_drop_key _ _ _ (uniq_dd _), ← hi, has_rev]
    unfold putL
    cases hh : has e.key (puts (k + 1) t) with
    | true =>
      simp only [if_true]
      rw [List.reverse_append, List.reverse_singleton, List.singleton_append, drop_rev]
    | false =>
      simp only [Bool.false_eq_true, if_false, if_true]
      have hl : (puts (k + 1) t).length = ((dd t.reverse).take (k + 1)).length := by rw [← hi, List.length_reverse]
      rw [List.length_take] at hl
      split
      · rename_i hf
        rw [List.reverse_append, List.reverse_singleton, List.singleton_append]
        congr 1
        have : (puts (k + 1) t).tail.reverse = (puts (k + 1) t).reverse.dropLast := by
          rw [List.dropLast_reverse]
        rw [this, hi, List.dropLast_eq_take, List.length_take, List.take_take]
        congr 1
        omega
      · rename_i hf
        rw [List.reverse_append, List.reverse_singleton, List.singleton_append, hi]
        congr 1
        rw [List.take_of_length_le (by omega), List.take_of_length_le (by omega)]
/-! ### going through them from the newest on -/
theorem dd_app : ∀ (a b : List En), dd (a ++ b) = dd a ++ (dd b).filter (fun e => !has e.key a)
  | [], b => by
    have : (dd b).filter (fun e => !has e.key []) = dd b := List.filter_eq_self.2 (fun _ _ => rfl)
    rw [this]
    rfl
  | x :: r, b => by
    rw [List.cons_append, dd, dd_app r b, dd, List.cons_append]
    congr 1
    unfold drop
    rw [List.filter_append, List.filter_filter]
    congr 1
    apply List.filter_congr
    intro e _
    unfold has
    rw [List.any_cons]
    by_cases h : e.key = x.key
    · simp [h]
    · have h1 : (e.key != x.key) = true := by simpa using h
      have h2 : (x.key == e.key) = false := by simpa using fun q => h (Eq.symm q)
      rw [h1, h2]
      simp
theorem has_dd (k : Int) (l : List En) : has k (dd l) = has k l := by
  induction l with
  | nil => rfl
  | cons x r ih =>
    rw [dd]
    have e1 : has k (x :: drop x.key (dd r)) = (x.key == k || has k (drop x.key (dd r))) := by unfold has; rw [List.any_cons]
    have e2 : has k (x :: r) = (x.key == k || has k r) := by unfold has; rw [List.any_cons]
    rw [e1, e2, has_drop, ih]
    by_cases h : x.key = k
    · simp [h]
    · have h2 : (k != x.key) = true := by simpa using fun q => h (Eq.symm q)
      rw [h2, Bool.and_true]
/-- a key that hasn't been seen is the next -/
theorem next_new (R : List En) (j : Nat) (x : En) (hx : R[j]? = some x) (hs : has x.key (R.take j) = false) : (dd R)[(dd (R.take j)).length]? = some x ∧ dd (R.take (j + 1)) = dd (R.take j) ++ [x] := by
  obtain ⟨hj, he⟩ := List.getElem?_eq_some_iff.1 hx
  have hR : R = R.take j ++ (x :: R.drop (j + 1)) := by rw [← he, ← List.drop_eq_getElem_cons hj, List.take_append_drop]
  constructor
  · have h1 : dd R = dd (R.take j ++ (x :: R.drop (j + 1))) := by rw [← hR]
    rw [h1, dd_app, List.getElem?_append_right (Nat.le_refl _), Nat.sub_self, dd]
    rw [List.filter_cons_of_pos (by simp [hs])]
    rfl
  · rw [List.take_succ_eq_append_getElem hj, dd_app, he]
    congr 1
    simp [dd, drop, hs]
theorem next_old (R : List En) (j : Nat) (x : En) (hx : R[j]? = some x) (hs : has x.key (R.take j) = true) : dd (R.take (j + 1)) = dd (R.take j) := by
  obtain ⟨hj, he⟩ := List.getElem?_eq_some_iff.1 hx
  rw [List.take_succ_eq_append_getElem hj, dd_app, he]
  simp [dd, drop, hs]
theorem find_at : ∀ (l : List En) (i : Nat) (x : En), Uniq l → l[i]? = some x → find x.key l = some x
  | [], i, x, _, h => by simp at h
  | y :: r, 0, x, _, h => by
    simp at h
    subst h
    simp [find]
  | y :: r, i + 1, x, hu, h => by
    obtain ⟨h1, h2⟩ := uniq_cons.1 hu
    have hr := find_at r i x h2 (by simpa using h)
    have hm : x ∈ r := List.mem_of_getElem? (by simpa using h)
    have : y.key ≠ x.key := fun e => ((has_not _ _).1 h1 x hm) e.symm
    unfold find at hr ⊢
    rw [List.find?_cons_of_neg (by simpa using this)]
    exact hr
theorem find_none {k : Int} {l : List En} (h : has k l = false) : find k l = none := by
  unfold find
  rw [List.find?_eq_none]
  intro e he
  have := (has_not k l).1 h e he
  simpa using this
theorem find_rev (k : Int) (l : List En) (hu : Uniq l) : find k l.reverse = find k l := by
  cases h : has k l with
  | false => rw [find_none h, find_none (by rw [has_rev]; exact h)]
  | true =>
    obtain ⟨e, he, rfl⟩ := (has_iff _ _).1 h
    obtain ⟨i, hi, hg⟩ := List.getElem_of_mem he
    obtain ⟨j, hj, hg2⟩ := List.getElem_of_mem (List.mem_reverse.2 he)
    rw [find_at l i e hu (by rw [List.getElem?_eq_getElem hi, hg]), find_at l.reverse j e (uniq_rev hu) (by rw [List.getElem?_eq_getElem hj, hg2])]
/-- a key that comes anew, from the newest on: it is there just if there is room -/
theorem last_new (n : Nat) (hn : 1 ≤ n) (es : List En) (j : Nat) (x : En) (hx : es.reverse[j]? = some x) (hs : has x.key (es.reverse.take j) = false) :
    find x.key (puts n es) = if (dd (es.reverse.take j)).length < n then some x else none := by
  have hp := puts_is n hn es
  have hu : Uniq (puts n es).reverse := by rw [hp]; exact uniq_take (uniq_dd _) _
  have hf : find x.key (puts n es) = find x.key ((dd es.reverse).take n) := by
    rw [← hp, find_rev _ _ (by have := uniq_rev hu; rwa [List.reverse_reverse] at this)]
  obtain ⟨h1, _⟩ := next_new _ _ _ hx hs
  rw [hf]
  split
  · rename_i hlt
    exact find_at _ _ _ (uniq_take (uniq_dd _) _) (by rw [List.getElem?_take_of_lt hlt]; exact h1)
  · rename_i hge
    refine find_none ((has_not _ _).2 fun e he hk => ?_)
    obtain ⟨i, hi, hg⟩ := List.getElem_of_mem he
    rw [List.length_take] at hi
    rw [List.getElem_take] at hg
    have hdu := uniq_dd es.reverse
    unfold Uniq at hdu
    have hq : (keys (dd es.reverse))[i]? = (keys (dd es.reverse))[(dd (es.reverse.take j)).length]? := by
      unfold keys
      rw [List.getElem?_map, List.getElem?_map, h1, List.getElem?_eq_getElem (by omega), hg]
      simp [hk]
    have hl2 : (dd (es.reverse.take j)).length < (keys (dd es.reverse)).length := by
      unfold keys; rw [List.length_map]; exact (List.getElem?_eq_some_iff.1 h1).1
    have hl1 : i < (keys (dd es.reverse)).length := by unfold keys; rw [List.length_map]; omega
    rw [List.getElem?_eq_getElem hl1, List.getElem?_eq_getElem hl2] at hq
    exact (List.pairwise_iff_getElem.1 hdu i _ hl1 hl2 (by omega)) (Option.some.inj hq)
theorem last_len (n : Nat) (hn : 1 ≤ n) (es : List En) : (puts n es).length = min n (dd es.reverse).length := by
  rw [← List.length_reverse, puts_is n hn, List.length_take]
end Go.Proofs.Ytkomehplcacbcaa.Z
