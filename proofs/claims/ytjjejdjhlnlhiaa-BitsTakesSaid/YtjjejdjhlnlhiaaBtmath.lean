/-
  Plain mathematics of taking bits: how many are 1, the first that is 0. Nothing of the program is in it.
-/
import Derived.Test.YtjjejdjhlnlhiaaBmath
namespace Go.Proofs.Ytjjejdjhlnlhiaa.Bt

theorem count_one (p q : Nat → Bool) (i : Nat) (h : ∀ j, j ≠ i → p j = q j) : ∀ N, i < N → (List.range N).countP q + (p i).toNat = (List.range N).countP p + (q i).toNat
  | 0, hi => by omega
  | N + 1, hi => by
    rw [List.range_succ, List.countP_append, List.countP_append, List.countP_singleton, List.countP_singleton]
    by_cases e : i = N
    · subst e
      have same : (List.range i).countP q = (List.range i).countP p := by
        refine List.countP_congr fun j hj => ?_
        rw [h j (by have := List.mem_range.1 hj; omega)]
      rw [same]
      cases p i <;> cases q i <;> simp
    · have := count_one p q i h N (by omega)
      rw [h N (fun k => e k.symm)]
      omega
/-- how many are 1 -/
def cnt (bs : List UInt8) : Nat := (all bs true 0 512).length
theorem cnt_eq (bs : List UInt8) (hl : bs.length = 64) : cnt bs = (List.range 512).countP (bit bs) := by
  unfold cnt all upto
  rw [hl, ← List.countP_eq_length_filter]
  refine List.countP_congr fun j hj => ?_
  have := List.mem_range.1 hj
  rw [among_in _ _ _ _ _ (by omega) (by omega)]
  simp
theorem cnt_le (bs : List UInt8) (hl : bs.length = 64) : cnt bs ≤ 512 := by
  have := all_length bs true 0 512
  unfold cnt; omega
theorem cnt_set (bs : List UInt8) (hl : bs.length = 64) (i : Nat) (on : Bool) (hi : i < 512) : cnt (setBit bs i on) + (bit bs i).toNat = cnt bs + on.toNat := by
  rw [cnt_eq bs hl, cnt_eq _ (by rw [setBit_length, hl])]
  have := count_one (bit bs) (bit (setBit bs i on)) i (fun j hj => by rw [bit_set bs i j on (by omega), if_neg (fun e => hj e.symm)]) 512 hi
  rw [bit_set bs i i on (by omega), if_pos rfl] at this
  exact this
/-- only the first 40 may be 1 -/
def Low (bs : List UInt8) : Prop := ∀ i, 40 ≤ i → bit bs i = false
theorem cnt_full (bs : List UInt8) (hl : bs.length = 64) (h : Low bs) : cnt bs = 40 ↔ ∀ i, i < 40 → bit bs i = true := by
  rw [cnt_eq bs hl, show 512 = 40 + 472 by rfl, List.range_add, List.countP_append]
  have z : ((List.range 472).map (40 + ·)).countP (bit bs) = 0 := by
    rw [List.countP_eq_zero]
    intro j hj
    obtain ⟨k, _, rfl⟩ := List.mem_map.1 hj
    rw [h (40 + k) (by omega)]; simp
  rw [z, Nat.add_zero]
  have := List.countP_eq_length (p := bit bs) (l := List.range 40)
  rw [List.length_range] at this
  rw [this]
  exact ⟨fun h i hi => h i (List.mem_range.2 hi), fun h i hi => h i (List.mem_range.1 hi)⟩
theorem least (p : Nat → Bool) : ∀ N, (∀ i, i < N → p i = false) ∨ ∃ i, i < N ∧ p i = true ∧ ∀ k, k < i → p k = false
  | 0 => .inl fun i hi => by omega
  | N + 1 => by
    rcases least p N with h | ⟨i, h1, h2, h3⟩
    · cases hp : p N with
      | true => exact .inr ⟨N, by omega, hp, h⟩
      | false =>
        left
        intro i hi
        rcases Nat.lt_or_ge i N with h' | h'
        · exact h i h'
        · rw [show i = N by omega, hp]
    · exact .inr ⟨i, by omega, h2, h3⟩
theorem first_full (bs : List UInt8) (h : ∀ i, i < 40 → bit bs i = true) : first bs 0 40 = -1 := by
  refine first_none _ _ _ ((all_none _ _ _ _).2 fun i _ => ?_)
  by_cases hi : i < 40
  · rw [among_in _ _ _ _ _ (by omega) (by omega), h i hi]; rfl
  · exact among_high _ _ _ _ _ (by omega)
theorem first_free (bs : List UInt8) (hl : bs.length = 64) (h : ¬ ∀ i, i < 40 → bit bs i = true) : ∃ i : Nat, i < 40 ∧ first bs 0 40 = (i : Int) ∧ bit bs i = false ∧ ∀ k, k < i → bit bs k = true := by
  rcases least (fun i => !bit bs i) 40 with h' | ⟨i, h1, h2, h3⟩
  · exact absurd (fun i hi => by have := h' i hi; simpa using this) h
  · have hb : bit bs i = false := by simpa using h2
    have hk : ∀ k, k < i → bit bs k = true := fun k hk => by have := h3 k hk; simpa using this
    refine ⟨i, h1, first_some _ _ _ _ ?_, hb, hk⟩
    have e0 : upto bs false 0 40 i = [] := upto_low _ _ _ _ _ fun k hki => by rw [among_in _ _ _ _ _ (by omega) (by omega), hk k hki]; rfl
    have e1 : upto bs false 0 40 (i + 1) = [i] := by rw [upto_yes _ _ _ _ _ (by rw [among_in _ _ _ _ _ (by omega) (by omega), hb]; rfl), e0]; rfl
    rw [← e1]
    exact upto_pre _ _ _ _ _ (by omega)
theorem low_set (bs : List UInt8) (hl : bs.length = 64) (h : Low bs) (i : Nat) (on : Bool) (hi : i < 40) : Low (setBit bs i on) := fun j hj => by
  rw [bit_set bs i j on (by omega), if_neg (by omega)]; exact h j hj
end Go.Proofs.Ytjjejdjhlnlhiaa.Bt
