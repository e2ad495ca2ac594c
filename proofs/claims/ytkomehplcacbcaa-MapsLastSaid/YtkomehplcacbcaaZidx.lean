/-
  Entries by their places: where a key stands, what a Put, a Use leaves.
-/
import Derived.Test.YtkomehplcacbcaaZmath
namespace Go.Proofs.Ytkomehplcacbcaa.Z

def pos (k : Int) (l : List En) : Option Nat := l.findIdx? (fun e => e.key == k)
def posI (k : Int) (l : List En) : Int := match pos k l with
  | some i => (i : Int)
  | none => -1
theorem pos_some {k : Int} {l : List En} {i : Nat} (h : pos k l = some i) : ∃ x, l[i]? = some x ∧ x.key = k ∧ ∀ j y, j < i → l[j]? = some y → y.key ≠ k := by
  unfold pos at h
  obtain ⟨hi, h1, h2⟩ := List.findIdx?_eq_some_iff_getElem.1 h
  refine ⟨l[i], List.getElem?_eq_getElem hi, by simpa using h1, fun j y hj hy => ?_⟩
  have h3 := h2 j hj
  obtain ⟨hjl, e⟩ := List.getElem?_eq_some_iff.1 hy
  rw [← e]
  simpa using h3
theorem pos_lt {k : Int} {l : List En} {i : Nat} (h : pos k l = some i) : i < l.length := by
  obtain ⟨x, hx, _⟩ := pos_some h
  exact (List.getElem?_eq_some_iff.1 hx).1
theorem pos_none {k : Int} {l : List En} (h : pos k l = none) : ∀ e ∈ l, e.key ≠ k := by
  unfold pos at h
  rw [List.findIdx?_eq_none_iff] at h
  intro e he
  have := h e he
  simpa using this
theorem pos_of {k : Int} {l : List En} {i : Nat} {x : En} (hx : l[i]? = some x) (hk : x.key = k) (hb : ∀ j y, j < i → l[j]? = some y → y.key ≠ k) : pos k l = some i := by
  unfold pos
  rw [List.findIdx?_eq_some_iff_getElem]
  obtain ⟨hi, e⟩ := List.getElem?_eq_some_iff.1 hx
  refine ⟨hi, by rw [e]; simpa using hk, fun j hj => ?_⟩
  have := hb j l[j] hj (List.getElem?_eq_getElem (by omega))
  simpa using this
theorem pos_nil {k : Int} {l : List En} (h : ∀ e ∈ l, e.key ≠ k) : pos k l = none := by
  unfold pos
  rw [List.findIdx?_eq_none_iff]
  intro e he
  simpa using h e he
/-- the entries behind a Put, by places -/
def putI (lru : Bool) (room : Nat) (l : List En) (e : En) : List En := match pos e.key l with
  | some i => if lru then l.eraseIdx i ++ [e] else l.set i e
  | none => if l.length = room then (if lru then l.eraseIdx 0 ++ [e] else l) else l ++ [e]
def putC (lru : Bool) (room : Nat) (l : List En) (e : En) : Int := match pos e.key l with
  | some _ => 0
  | none => if l.length = room then (if lru then 0 else 28) else 0
def useI (lru : Bool) (l : List En) (k : Int) : List En := match pos k l with
  | some i => if lru then l.eraseIdx i ++ (l[i]?).toList else l
  | none => l
theorem putI_len {lru : Bool} {room : Nat} {l : List En} {e : En} (h : l.length ≤ room) (hr : 1 ≤ room) : (putI lru room l e).length ≤ room := by
  unfold putI
  split
  · rename_i i hi
    have := pos_lt hi
    split
    · rw [List.length_append, List.length_eraseIdx, if_pos this, List.length_singleton]; omega
    · rw [List.length_set]; exact h
  · split
    · split
      · rename_i hf _
        rw [List.length_append, List.length_eraseIdx, if_pos (by omega), List.length_singleton]; omega
      · exact h
    · rw [List.length_append, List.length_singleton]; omega
theorem set_erase (l : List En) (i : Nat) (e : En) : (l.set i e).eraseIdx i = l.eraseIdx i := by
  induction l generalizing i with
  | nil => rfl
  | cons x r ih =>
    cases i with
    | zero => rfl
    | succ i => simp [ih]
theorem set_same {l : List En} {i : Nat} {x : En} (h : l[i]? = some x) : l.set i x = l := by
  obtain ⟨hi, e⟩ := List.getElem?_eq_some_iff.1 h
  subst e
  exact List.set_getElem_self hi
theorem uniq_pos {l : List En} (hu : Uniq l) {k : Int} {i : Nat} (h : pos k l = some i) : drop k l = l.eraseIdx i := by
  induction l generalizing i with
  | nil => simp [pos] at h
  | cons x r ih =>
    obtain ⟨h1, h2⟩ := uniq_cons.1 hu
    by_cases hk : x.key = k
    · have : pos k (x :: r) = some 0 := pos_of (x := x) rfl hk (fun j y hj => by omega)
      rw [this] at h
      injection h with h
      subst h
      rw [List.eraseIdx_zero, List.tail_cons]
      have e1 : drop k (x :: r) = drop k r := by unfold drop; simp [hk]
      rw [e1, drop_no (by rw [← hk]; exact h1)]
    · have e1 : drop k (x :: r) = x :: drop k r := by unfold drop; simp [hk]
      obtain ⟨y, hy, hyk, hb⟩ := pos_some h
      cases i with
      | zero =>
        simp at hy
        exact absurd (hy ▸ hyk) hk
      | succ i =>
        have hp : pos k r = some i := pos_of (by simpa using hy) hyk (fun j z hj hz => hb (j + 1) z (by omega) (by simpa using hz))
        rw [e1, ih h2 hp, List.eraseIdx_cons_succ]
theorem pos_has {k : Int} {l : List En} : has k l = (pos k l).isSome := by
  cases h : pos k l with
  | none => exact (has_not _ _).2 (pos_none h)
  | some i =>
    obtain ⟨x, hx, hk, _⟩ := pos_some h
    exact (has_iff _ _).2 ⟨x, List.mem_of_getElem? hx, hk⟩
theorem putI_putL {room : Nat} {l : List En} {e : En} (hu : Uniq l) : putI true room l e = putL true room l e := by
  unfold putI putL
  cases h : pos e.key l with
  | none =>
    have : has e.key l = false := by rw [pos_has, h]; rfl
    rw [this]
    simp
  | some i =>
    have : has e.key l = true := by rw [pos_has, h]; rfl
    rw [this, uniq_pos hu h]
    simp
theorem putC_lru {room : Nat} {l : List En} {e : En} : putC true room l e = 0 := by
  unfold putC
  split
  · rfl
  · split <;> rfl
theorem find_pos {k : Int} {l : List En} : find k l = (pos k l).bind (fun i => l[i]?) := by
  cases h : pos k l with
  | none => rw [find_none ((has_not _ _).2 (pos_none h))]; rfl
  | some i =>
    obtain ⟨x, hx, hk, hb⟩ := pos_some h
    show find k l = l[i]?
    rw [hx]
    unfold find
    rw [List.find?_eq_some_iff_getElem]
    obtain ⟨hi, e⟩ := List.getElem?_eq_some_iff.1 hx
    refine ⟨by simpa using hk, i, hi, e, fun j hj => ?_⟩
    have := hb j l[j] hj (List.getElem?_eq_getElem (by omega))
    simpa using this
theorem uniq_puts (n : Nat) (hn : 1 ≤ n) (es : List En) : Uniq (puts n es) := by
  have h := puts_is n hn es
  have h2 : Uniq (puts n es).reverse := by rw [h]; exact uniq_take (uniq_dd _) _
  have := uniq_rev h2
  rwa [List.reverse_reverse] at this
theorem puts_len (n : Nat) (hn : 1 ≤ n) (es : List En) : (puts n es).length ≤ n := by
  have h := puts_is n hn es
  have : (puts n es).reverse.length ≤ n := by rw [h, List.length_take]; omega
  rwa [List.length_reverse] at this
end Go.Proofs.Ytkomehplcacbcaa.Z
