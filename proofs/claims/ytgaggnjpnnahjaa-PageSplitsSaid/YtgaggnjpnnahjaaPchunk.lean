/-
  Bytes cut into pages, and together again; what Split makes, as a row of pages.
-/
import Derived.Test.YtgaggnjpnnahjaaPsplit
namespace Go.Proofs.Ytgaggnjpnnahjaa
open Go.RowKit

def chunks (n : Nat) (L : List UInt8) : List (List UInt8) := (List.range n).map fun i => (L.drop (i * 64)).take 64
theorem chunks_length (n : Nat) (L : List UInt8) : (chunks n L).length = n := by simp [chunks]
theorem chunks_at (n : Nat) (L : List UInt8) (i : Nat) (h : i < n) : (chunks n L).getD i [] = (L.drop (i * 64)).take 64 := by
  unfold chunks
  rw [List.getD_eq_getElem?_getD, List.getElem?_map, List.getElem?_range h]; rfl
theorem chunks_flat (n : Nat) (L : List UInt8) (h : L.length = n * 64) : (chunks n L).flatten = L := by
  have : ∀ k, k ≤ n → ((chunks n L).take k).flatten = L.take (k * 64) := by
    intro k
    induction k with
    | zero => intro _; simp
    | succ k ih =>
      intro hk
      rw [flat_one _ k (by rw [chunks_length]; omega), ih (by omega), chunks_at n L k (by omega), Nat.add_mul, Nat.one_mul, List.take_add]
  have h1 := this n (Nat.le_refl _)
  rw [List.take_of_length_le (by rw [chunks_length]; exact Nat.le_refl _), List.take_of_length_le (by omega)] at h1
  exact h1
theorem chunks_of (ps : List (List UInt8)) (n : Nat) (hl : ps.length = n) (hs : ∀ i, i < n → (ps.getD i []).length = 64) (i : Nat) (hi : i < n) : (ps.flatten.drop (i * 64)).take 64 = ps.getD i [] := by
  have h1 := flat_length ps n hl hs i (by omega)
  have h2 := flat_one ps i (by omega)
  have h3 : ps.flatten = (ps.take (i + 1)).flatten ++ (ps.drop (i + 1)).flatten := by rw [← List.flatten_append, List.take_append_drop]
  rw [h3, h2, List.append_assoc, List.drop_append_of_le_length (by omega), List.drop_of_length_le (by omega), List.nil_append]
  exact List.take_left' (hs i hi)
theorem padded_eq (n : Nat) (l : List UInt8) : padded n l = l ++ List.replicate (n * 64 - l.length) 0 := by
  unfold padded Pg.over
  simp [List.drop_replicate]
theorem padded_length (n : Nat) (l : List UInt8) (h : l.length ≤ n * 64) : (padded n l).length = n * 64 := by
  rw [padded_eq]; simp; omega
theorem padded_full (n : Nat) (l : List UInt8) (h : l.length = n * 64) : padded n l = l := by
  rw [padded_eq, h]; simp
theorem RowAt.pages {w : World} {b n : Nat} {L : List UInt8} (h : RowAt w b L) (hL : L.length = n * 64) (hb : b < w.heap.size) (hn : n ≤ 1000) : PageRow w (some ⟨b, 0, none⟩) n (chunks n L) where
  len := chunks_length n L
  small := by unfold maxLen; omega
  size := fun i hi => by rw [chunks_at n L i hi]; simp; omega
  cells := fun _ => ⟨b, 0, rfl, hb, fun i hi => by rw [chunks_at n L i hi, Nat.zero_add]; exact h.part (i * 64) 64⟩

/-- are all bytes 0? -/
def allz (l : List UInt8) : Bool := l.all (· == 0)
theorem zero_chunks (n : Nat) (l : List UInt8) (h : l.length ≤ n * 64) : zeroB (chunks n (padded n l)) n = allz l := by
  have hL := padded_length n l h
  rw [Bool.eq_iff_iff]
  unfold zeroB allz
  rw [decide_eq_true_iff, List.all_eq_true]
  constructor
  · intro hz c hc
    have hmem : c ∈ (chunks n (padded n l)).flatten := by
      rw [chunks_flat n _ hL, padded_eq]; exact List.mem_append_left _ hc
    obtain ⟨p, hp, hcp⟩ := List.mem_flatten.1 hmem
    obtain ⟨i, hi, he⟩ := List.getElem_of_mem hp
    rw [chunks_length] at hi
    have := hz i hi
    rw [List.getD_eq_getElem?_getD, List.getElem?_eq_getElem (by rw [chunks_length]; exact hi)] at this
    have hpz : p = zeros := by rw [← he]; exact this
    rw [hpz] at hcp
    have := List.eq_of_mem_replicate hcp
    rw [this]; rfl
  · intro ha i hi
    rw [chunks_at n _ i hi]
    have hlen : (((padded n l).drop (i * 64)).take 64).length = 64 := by simp; omega
    unfold zeros
    rw [List.eq_replicate_iff]
    refine ⟨hlen, fun c hc => ?_⟩
    have hm : c ∈ padded n l := List.mem_of_mem_drop (List.mem_of_mem_take hc)
    rw [padded_eq] at hm
    rcases List.mem_append.1 hm with hm | hm
    · simpa using ha c hm
    · exact List.eq_of_mem_replicate hm

theorem split_any (s : ByteArray) (n : Nat) (w : World) (hn : n = (s.size + 63) / 64) (hs : s.size ≤ 60000) :
    Calls Try.prog 16 #[.string s] w fun e w' => e = .returned (.slice (some ⟨w.heap.size, 0, none⟩) n n) ∧ PageRow w' (some ⟨w.heap.size, 0, none⟩) n (chunks n (padded n s.data.toList)) ∧ w.heap.size < w'.heap.size ∧ Below w.heap.size w w' := by
  refine (split_walk s n w hn hs).mono ?_
  rintro e w' ⟨rfl, hr, hz, hb⟩
  exact ⟨rfl, hr.pages (padded_length n _ (by simp; omega)) hz (by omega), hz, hb⟩
theorem split_joined (ps : List (List UInt8)) (n : Nat) (w : World) (hl : ps.length = n) (hs : ∀ i, i < n → (ps.getD i []).length = 64) (hn : n ≤ 900) :
    Calls Try.prog 16 #[.string (strOf ps.flatten)] w fun e w' => e = .returned (.slice (some ⟨w.heap.size, 0, none⟩) n n) ∧ PageRow w' (some ⟨w.heap.size, 0, none⟩) n ps ∧ w.heap.size < w'.heap.size ∧ Below w.heap.size w w' := by
  have hf : ps.flatten.length = n * 64 := by
    have := flat_length ps n hl hs n (Nat.le_refl _)
    rwa [List.take_of_length_le (by omega)] at this
  refine (split_any (strOf ps.flatten) n w (by rw [strOf_size]; omega) (by rw [strOf_size]; omega)).mono ?_
  rintro e w' ⟨rfl, hr, hz, hb⟩
  refine ⟨rfl, ?_, hz, hb⟩
  have hp : padded n (strOf ps.flatten).data.toList = ps.flatten := by
    have : (strOf ps.flatten).data.toList = ps.flatten := by simp [strOf]
    rw [this, padded_full n _ hf]
  rw [hp] at hr
  have hc : chunks n ps.flatten = ps := by
    apply List.ext_getElem
    · rw [chunks_length, hl]
    · intro i h1 h2
      have a1 := chunks_at n ps.flatten i (by omega)
      rw [chunks_of ps n hl hs i (by omega)] at a1
      rw [List.getD_eq_getElem?_getD, List.getD_eq_getElem?_getD, List.getElem?_eq_getElem h1, List.getElem?_eq_getElem h2] at a1
      exact a1
  rw [hc] at hr
  exact hr
end Go.Proofs.Ytgaggnjpnnahjaa
