/-
  Many maps at once, none of which lies in another's memory; rows of pointers to them.
-/
import Derived.Test.YtkomehplcacbcaaZplain
import Derived.Test.YtkomehplcacbcaaZsame
namespace Go.Proofs.Ytkomehplcacbcaa
open Go.RowKit Go.Maps

structure Mp where
  et : TypeId
  hd : Value
  b : Nat
  sv : Value
  room : Nat
  l : List Z.En
def Mp.At (m : Mp) (W : World) (base : Nat) : Prop := MpAt m.et m.hd W base m.b m.sv m.room m.l
def Mp.foot (m : Mp) (k : Nat) : Prop := Foot m.b m.sv k
structure Ms (base : Nat) (R : Nat → Prop) (ms : List Mp) (W : World) : Prop where
  each : ∀ (i : Nat) (m : Mp), ms[i]? = some m → m.At W base
  apart : ∀ (i j : Nat) (m q : Mp), i ≠ j → ms[i]? = some m → ms[j]? = some q → ∀ k, m.foot k → ¬ q.foot k
  off : ∀ (i : Nat) (m : Mp), ms[i]? = some m → ∀ k, m.foot k → ¬ R k
  low : ∀ k, R k → k < W.heap.size
theorem Ms.call {base : Nat} {R : Nat → Prop} {ms : List Mp} {W W' : World} (h : Ms base R ms W) (hb : Below W.heap.size W W') : Ms base R ms W' :=
  ⟨fun i m hm => MpAt.step (h.each i m hm) hb, h.apart, h.off, fun k hk => Nat.lt_of_lt_of_le (h.low k hk) hb.size⟩
theorem Ms.sub {base : Nat} {R R' : Nat → Prop} {ms : List Mp} {W : World} (h : Ms base R ms W) (hs : ∀ k, R' k → R k) : Ms base R' ms W :=
  ⟨h.each, h.apart, fun i m hm k hk hr => h.off i m hm k hk (hs k hr), fun k hk => h.low k (hs k hk)⟩
theorem Ms.nil (base : Nat) (W : World) : Ms base (fun _ => False) [] W := ⟨fun i m h => by simp at h, fun i j m q _ h => by simp at h, fun i m h => by simp at h, fun k h => h.elim⟩
theorem Ms.turn {base : Nat} {R : Nat → Prop} {ms : List Mp} {W W' : World} (h : Ms base R ms W) (i : Nat) (m : Mp) (hm : ms[i]? = some m) {sv' : Value} {l' : List Z.En} (hto : MpTo m.et m.hd W base m.b m.sv m.room l' W' sv') :
    Ms base R (ms.set i ⟨m.et, m.hd, m.b, sv', m.room, l'⟩) W' := by
  have hi := (List.getElem?_eq_some_iff.1 hm).1
  have hget : ∀ (j : Nat) (q : Mp), (ms.set i ⟨m.et, m.hd, m.b, sv', m.room, l'⟩)[j]? = some q → (j = i ∧ q = ⟨m.et, m.hd, m.b, sv', m.room, l'⟩) ∨ (j ≠ i ∧ ms[j]? = some q) := by
    intro j q hq
    by_cases e : i = j
    · subst e
      rw [List.getElem?_set_self hi] at hq
      injection hq with hq
      exact Or.inl ⟨rfl, hq.symm⟩
    · rw [List.getElem?_set_ne e] at hq
      exact Or.inr ⟨fun q => e q.symm, hq⟩
  have hfoot : ∀ k, Foot m.b sv' k → m.foot k ∨ W.heap.size ≤ k := by
    intro k hk
    rcases hk with e | e
    · exact Or.inl (Or.inl e)
    · rcases hto.new k e with h1 | h1
      · exact Or.inl (Or.inr h1)
      · exact Or.inr h1
  have hlt : ∀ (j : Nat) (q : Mp), ms[j]? = some q → ∀ k, q.foot k → k < W.heap.size := fun j q hq k hk => (MpAt.foot (h.each j q hq) hk).2
  refine ⟨fun j q hq => ?_, fun j k q r hjk hq hr x hx hx2 => ?_, fun j q hq k hk hR => ?_, fun k hk => Nat.lt_of_lt_of_le (h.low k hk) hto.but.size⟩
  · rcases hget j q hq with ⟨_, rfl⟩ | ⟨hne, hq⟩
    · exact hto.at_
    · exact MpAt.keep (h.each j q hq) hto.but (fun k hk hk2 => h.apart i j m q (Ne.symm hne) hm hq k hk hk2)
  · rcases hget j q hq with ⟨rfl, rfl⟩ | ⟨hne, hq⟩
    · rcases hget k r hr with ⟨rfl, rfl⟩ | ⟨hne2, hr⟩
      · exact hjk rfl
      · rcases hfoot x hx with h1 | h1
        · exact h.apart j k m r hjk hm hr x h1 hx2
        · have := hlt k r hr x hx2
          omega
    · have hq2 := hq
      rcases hget k r hr with ⟨rfl, rfl⟩ | ⟨hne2, hr⟩
      · rcases hfoot x hx2 with h1 | h1
        · exact h.apart j k q m hjk hq2 hm x hx h1
        · have := hlt j q hq2 x hx
          omega
      · exact h.apart j k q r hjk hq2 hr x hx hx2
  · rcases hget j q hq with ⟨rfl, rfl⟩ | ⟨hne, hq⟩
    · rcases hfoot k hk with h1 | h1
      · exact h.off j m hm k h1 hR
      · have := h.low k hR
        omega
    · exact h.off j q hq k hk hR
theorem Ms.add {base : Nat} {R : Nat → Prop} {ms : List Mp} {W W' : World} (h : Ms base R ms W) (hb : Below W.heap.size W W') (m : Mp) (hm : m.At W' base) (hf : ∀ k, m.foot k → W.heap.size ≤ k) : Ms base R (ms ++ [m]) W' := by
  have h' := h.call hb
  have hlt : ∀ (j : Nat) (q : Mp), ms[j]? = some q → ∀ k, q.foot k → k < W.heap.size := fun j q hq k hk => (MpAt.foot (h.each j q hq) hk).2
  have hget : ∀ (j : Nat) (q : Mp), (ms ++ [m])[j]? = some q → (j = ms.length ∧ q = m) ∨ (j < ms.length ∧ ms[j]? = some q) := by
    intro j q hq
    by_cases e : j < ms.length
    · rw [List.getElem?_append_left e] at hq
      exact Or.inr ⟨e, hq⟩
    · rw [List.getElem?_append_right (by omega)] at hq
      have : j - ms.length = 0 := by have := (List.getElem?_eq_some_iff.1 hq).1; simp at this; omega
      rw [this] at hq
      injection hq with hq
      exact Or.inl ⟨by omega, hq.symm⟩
  refine ⟨fun j q hq => ?_, fun j k q r hjk hq hr x hx hx2 => ?_, fun j q hq k hk hR => ?_, h'.low⟩
  · rcases hget j q hq with ⟨_, rfl⟩ | ⟨_, hq⟩
    · exact hm
    · exact h'.each j q hq
  · rcases hget j q hq with ⟨rfl, rfl⟩ | ⟨_, hq⟩
    · rcases hget k r hr with ⟨rfl, rfl⟩ | ⟨_, hr⟩
      · exact hjk rfl
      · have := hlt k r hr x hx2
        have := hf x hx
        omega
    · have hq2 := hq
      rcases hget k r hr with ⟨rfl, rfl⟩ | ⟨_, hr⟩
      · have := hlt j q hq2 x hx
        have := hf x hx2
        omega
      · exact h.apart j k q r hjk hq2 hr x hx hx2
  · rcases hget j q hq with ⟨rfl, rfl⟩ | ⟨_, hq⟩
    · have := h.low k hR
      have := hf k hk
      omega
    · exact h.off j q hq k hk hR
theorem Ms.grow {base : Nat} {R0 : Nat → Prop} {v v' : Value} {ms : List Mp} {W W' : World} (h : Ms base (fun k => R0 k ∨ v.ownBlock = some k) ms W) (hg : W.grownBy W' v.ownBlock) (hl : v'.ownBlock = v.ownBlock ∨ v'.ownBlock = some W.heap.size) (hlt : ∀ k, v'.ownBlock = some k → k < W'.heap.size) :
    Ms base (fun k => R0 k ∨ v'.ownBlock = some k) ms W' := by
  refine ⟨fun j q hq => ?_, h.apart, fun j q hq k hk hR => ?_, fun k hk => ?_⟩
  · exact MpAt.keep (h.each j q hq) (But.of_grown hg) (fun k hk hk2 => h.off j q hq k hk2 (Or.inr hk))
  · rcases hR with hR | hR
    · exact h.off j q hq k hk (Or.inl hR)
    · rcases hl with e | e
      · exact h.off j q hq k hk (Or.inr (by rw [← e]; exact hR))
      · rw [e] at hR
        injection hR with hR
        have := (MpAt.foot (h.each j q hq) hk).2
        omega
  · rcases hk with hk | hk
    · exact Nat.lt_of_lt_of_le (h.low k (Or.inl hk)) hg.size
    · exact hlt k hk

/-! ### rows of pointers -/
abbrev PT : TypeId := 34
abbrev RT : TypeId := 32
def ptrs (bs : List Nat) : List Value := bs.map (fun b => Value.pointer (some ⟨b, 0, none⟩))
theorem ptrs_length (bs : List Nat) : (ptrs bs).length = bs.length := by unfold ptrs; simp
theorem ptrs_snoc (bs : List Nat) (b : Nat) : ptrs (bs ++ [b]) = ptrs bs ++ [.pointer (some ⟨b, 0, none⟩)] := by unfold ptrs; simp
theorem own_pget {w : World} {base : Nat} {t : TypeId} {v : Value} {n : Nat} {bs : List Nat} (h : w.ownsRow base t 1 v n (ptrs bs)) {i : Nat} (hi : i < n) : ∃ g c, v = .slice (some ⟨g, 0, none⟩) n c ∧ n ≤ c ∧ g < w.heap.size ∧ w.cell? ⟨g, i, none⟩ = some (.pointer (some ⟨bs.getD i 0, 0, none⟩)) := by
  have hl : bs.length = n := by have := h.1; rw [ptrs_length] at this; omega
  rcases h.2 with ⟨_, e⟩ | ⟨g, cap, cur, e, _, hg, hnc, _⟩
  · omega
  · refine ⟨g, cap, e, hnc, (Array.getElem?_eq_some_iff.1 hg).1, ?_⟩
    have := h.cells (g := g) (by rw [e]; rfl) i (.pointer (some ⟨bs.getD i 0, 0, none⟩)) (by
      unfold ptrs
      rw [List.getElem?_map, List.getD_eq_getElem?_getD, List.getElem?_eq_getElem (by omega)]
      rfl)
    rwa [Addr.add_mid, Nat.zero_add] at this
theorem own_types {w : World} {base base' : Nat} {t t' : TypeId} {s s' : Nat} {v v' : Value} {n n' : Nat} {xs xs' : List Value} (h : w.ownsRow base t s v n xs) (h' : w.ownsRow base' t' s' v' n' xs') (ht : t ≠ t') {k : Nat} (hk : v.ownBlock = some k) : v'.ownBlock ≠ some k := by
  intro hk'
  rcases h.2 with ⟨e, _⟩ | ⟨g, cap, cur, e, _, hg, _⟩
  · rw [e] at hk; cases hk
  · rcases h'.2 with ⟨e', _⟩ | ⟨g', cap', cur', e', _, hg', _⟩
    · rw [e'] at hk'; cases hk'
    · rw [e] at hk
      rw [e'] at hk'
      injection hk with hk
      injection hk' with hk'
      simp only at hk hk'
      rw [hk] at hg
      rw [hk', hg] at hg'
      injection hg' with hg'
      injection hg' with _ h2
      exact ht h2
theorem info_p : (Try.prog.info? 34).map (fun i => (i.zero, i.size, i.bytes)) = some (some (.pointer none), 1, 8) := by kernel_rfl
theorem info_r : (Try.prog.info? 32).map (fun i => (i.zero, i.size, i.bytes)) = some (some (.pointer none), 1, 8) := by kernel_rfl
end Go.Proofs.Ytkomehplcacbcaa
