/-
  Heads as values; the contracts of head.Right and of the document's own Right.
-/
import Derived.Test.YtlamllnflbdcjaaPset
import Derived.Test.YtlamllnflbdcjaaHmath
import Derived.Deep.QuietTactic
import Derived.BigQuiet
namespace Go.Proofs.Ytlamllnflbdcjaa
open Go.RowKit
open Dk (zeros zeros_length)
open Hd (Head rightB pageH)

/-- a head's value -/
def headV (h : Head) : Value := .agg #[.int .i64 h.seq, .bool h.live, .int .i64 h.count, .int .u32 h.sum]

theorem right_true {s : Int} {l : Bool} {c m : Int} (h1 : 0 ≤ s) (h2 : s < 4294967296) (h3 : l = true → 1 ≤ c ∧ c ≤ 512) (h4 : l = false → c = 0 ∧ m = 0) : rightB ⟨s, l, c, m⟩ = true := decide_eq_true ⟨h1, h2, h3, h4⟩
theorem right_cases (s : Int) (l : Bool) (c m : Int) : (s < 0 ∧ rightB ⟨s, l, c, m⟩ = false) ∨ (0 ≤ s ∧ 4294967295 < s ∧ rightB ⟨s, l, c, m⟩ = false) ∨
    (0 ≤ s ∧ s ≤ 4294967295 ∧ ((l = true ∧ c < 1 ∧ rightB ⟨s, l, c, m⟩ = false) ∨ (l = true ∧ 1 ≤ c ∧ 512 < c ∧ rightB ⟨s, l, c, m⟩ = false) ∨ (l = true ∧ 1 ≤ c ∧ c ≤ 512 ∧ rightB ⟨s, l, c, m⟩ = true) ∨
      (l = false ∧ c ≠ 0 ∧ rightB ⟨s, l, c, m⟩ = false) ∨ (l = false ∧ c = 0 ∧ m ≠ 0 ∧ rightB ⟨s, l, c, m⟩ = false) ∨ (l = false ∧ c = 0 ∧ m = 0 ∧ rightB ⟨s, l, c, m⟩ = true))) := by
  have hn : ∀ P : Prop, (¬ (0 ≤ s ∧ s < 4294967296 ∧ (l = true → 1 ≤ c ∧ c ≤ 512) ∧ (l = false → c = 0 ∧ m = 0))) → rightB ⟨s, l, c, m⟩ = false := fun _ h => decide_eq_false h
  by_cases h1 : s < 0
  · exact Or.inl ⟨h1, hn True (by omega)⟩
  by_cases h2 : 4294967295 < s
  · exact Or.inr (Or.inl ⟨by omega, h2, hn True (by omega)⟩)
  refine Or.inr (Or.inr ⟨by omega, by omega, ?_⟩)
  cases l with
  | true =>
    by_cases h3 : c < 1
    · exact Or.inl ⟨rfl, h3, hn True (by simp; omega)⟩
    by_cases h4 : 512 < c
    · exact Or.inr (Or.inl ⟨rfl, by omega, h4, hn True (by simp; omega)⟩)
    exact Or.inr (Or.inr (Or.inl ⟨rfl, by omega, by omega, right_true (by omega) (by omega) (fun _ => ⟨by omega, by omega⟩) (fun h => by cases h)⟩))
  | false =>
    by_cases h3 : c = 0
    · by_cases h4 : m = 0
      · exact Or.inr (Or.inr (Or.inr (Or.inr (Or.inr ⟨rfl, h3, h4, right_true (by omega) (by omega) (fun h => by cases h) (fun _ => ⟨h3, h4⟩)⟩))))
      · exact Or.inr (Or.inr (Or.inr (Or.inr (Or.inl ⟨rfl, h3, h4, hn True (by simp; omega)⟩))))
    · exact Or.inr (Or.inr (Or.inr (Or.inl ⟨rfl, h3, hn True (by simp; omega)⟩)))

set_option maxRecDepth 100000 in
set_option maxHeartbeats 1000000 in
theorem right_any (h : Head) (w : World) :
    Calls Try.prog 45 #[headV h] w fun e w' => e = .returned (.bool (rightB h)) ∧ Below w.heap.size w w' := by
  obtain ⟨s, l, c, m⟩ := h
  have hc := right_cases s l c m
  unfold headV
  generalize rightB ⟨s, l, c, m⟩ = r at hc ⊢
  rcases hc with ⟨h1, rfl⟩ | ⟨h1, h2, rfl⟩ | ⟨h1, h2, hc⟩
  · go_enter Try.func45, Try.ntmps45
    go_wp2
    go_ret
    exact ⟨rfl, (Below.refl _ _).alloc (Nat.le_refl _) _⟩
  · go_enter Try.func45, Try.ntmps45
    go_wp2
    go_ret
    exact ⟨rfl, (Below.refl _ _).alloc (Nat.le_refl _) _⟩
  · have h3 : ¬ s < 0 := by omega
    have h4 : ¬ 4294967295 < s := by omega
    rcases hc with ⟨rfl, g1, rfl⟩ | ⟨rfl, g1, g2, rfl⟩ | ⟨rfl, g1, g2, rfl⟩ | ⟨rfl, g1, rfl⟩ | ⟨rfl, rfl, g2, rfl⟩ | ⟨rfl, rfl, rfl, rfl⟩
    · have g3 : ¬ 1 ≤ c := by omega
      go_enter Try.func45, Try.ntmps45
      go_wp2
      go_ret
      exact ⟨rfl, (Below.refl _ _).alloc (Nat.le_refl _) _⟩
    · have g3 : ¬ c ≤ 512 := by omega
      go_enter Try.func45, Try.ntmps45
      go_wp2
      go_ret
      exact ⟨ret_bool (by simp <;> omega), (Below.refl _ _).alloc (Nat.le_refl _) _⟩
    · go_enter Try.func45, Try.ntmps45
      go_wp2
      go_ret
      exact ⟨ret_bool (by simp <;> omega), (Below.refl _ _).alloc (Nat.le_refl _) _⟩
    · have g3 : (c == 0) = false := by simpa using g1
      go_enter Try.func45, Try.ntmps45
      go_wp2
      go_ret
      exact ⟨rfl, (Below.refl _ _).alloc (Nat.le_refl _) _⟩
    · have g3 : (m == 0) = false := by simpa using g2
      go_enter Try.func45, Try.ntmps45
      go_wp2
      go_ret
      exact ⟨ret_bool (by simp), (Below.refl _ _).alloc (Nat.le_refl _) _⟩
    · go_enter Try.func45, Try.ntmps45
      go_wp2
      go_ret
      exact ⟨rfl, (Below.refl _ _).alloc (Nat.le_refl _) _⟩
theorem right_yes (h : Head) (w : World) (hr : rightB h = true) :
    Calls Try.prog 45 #[headV h] w fun e w' => e = .returned (.bool true) ∧ Below w.heap.size w w' := hr ▸ right_any h w
theorem right_no (h : Head) (w : World) (hr : rightB h = false) :
    Calls Try.prog 45 #[headV h] w fun e w' => e = .returned (.bool false) ∧ Below w.heap.size w w' := hr ▸ right_any h w


/-! ### a head's page, as the calls make it -/
theorem set_chain (h : Head) : Pg.setN (Pg.setN (Pg.setN (if h.live = true then Pg.setN (Pg.setN zeros 0 4 h.seq) 4 1 1 else Pg.setN zeros 0 4 h.seq) 5 2 h.count) 7 4 h.sum) 60 4 h.seq = pageH h := by
  obtain ⟨s, l, c, m⟩ := h
  cases l <;> rfl
end Go.Proofs.Ytlamllnflbdcjaa
