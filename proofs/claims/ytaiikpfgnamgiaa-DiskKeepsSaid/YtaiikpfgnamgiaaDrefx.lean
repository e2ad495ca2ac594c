/-
  The reference's Crash: what it makes, page by page, byte by byte.
-/
import Derived.Test.YtaiikpfgnamgiaaDreff
namespace Go.Proofs.Ytaiikpfgnamgiaa
open Go.RowKit
open Dk (zeros zeros_length)

/-! ### one byte of a row -/
theorem RowsAt.setByte {w : World} {b : Nat} {ps : List (List UInt8)} (h : RowsAt w b ps) {i : Nat} {q : List UInt8} (hi : ps[i]? = some q) {t : Nat} (ht : t < 64) (x : UInt8) : RowsAt (w.setCell ⟨b, i * 64 + t, none⟩ (.int .u8 (x.toNat : Int))) b (ps.set i (q.set t x)) := by
  have hil : i < ps.length := (List.getElem?_eq_some_iff.1 hi).1
  have hql : q.length = 64 := h.size q (List.mem_of_getElem? hi)
  have hth := h.thereAt i hil
  refine ⟨?_, ?_, ?_⟩
  · intro p hp
    rcases List.mem_or_eq_of_mem_set hp with h1 | h1
    · exact h.size p h1
    · rw [h1, List.length_set]; exact hql
  · intro j p hp u v hv
    rw [List.getElem?_set] at hp
    by_cases e : i = j
    · subst e
      rw [if_pos rfl, if_pos hil] at hp
      injection hp with hp
      subst hp
      rw [← byteVals_set, List.getElem?_set] at hv
      by_cases f : t = u
      · subst f
        rw [if_pos rfl, if_pos (by rw [byteVals_length, hql]; exact ht)] at hv
        injection hv with hv
        rw [← hv]
        exact World.cell?_setCell_same' _ _ _ (hth t ht).1
      · rw [if_neg f] at hv
        rw [World.cell?_setCell_other _ _ _ _ (fun q => f (by injection q with _ q; omega))]
        exact h.range i q hi u v hv
    · rw [if_neg e] at hp
      have hul : u < 64 := by
        have := (List.getElem?_eq_some_iff.1 hv).1
        rw [byteVals_length, h.size p (List.mem_of_getElem? hp)] at this; exact this
      rw [World.cell?_setCell_other _ _ _ _ (fun q => by
        injection q with _ q
        rcases Nat.lt_or_gt_of_ne e with g | g
        · have : (i + 1) * 64 ≤ j * 64 := Nat.mul_le_mul_right _ g; omega
        · have : (j + 1) * 64 ≤ i * 64 := Nat.mul_le_mul_right _ g; omega)]
      exact h.range j p hp u v hv
  · intro j hj
    rw [List.length_set] at hj
    have hf := h.free j hj
    refine ⟨?_, by rw [World.frozen?_setCell]; exact hf.2⟩
    by_cases e : i * 64 + t = 0 + j
    · have := World.cell?_setCell_same' w ⟨b, i * 64 + t, none⟩ (.int .u8 (x.toNat : Int)) (hth t ht).1
      rw [← e, this]; rfl
    · rw [World.cell?_setCell_other _ _ _ _ (fun q => e (by injection q))]
      exact hf.1
theorem mixed_step (p q : List UInt8) (t : Nat) (hp : p.length = 64) (hq : q.length = 64) (ht : t < 64) : (p.take t ++ q.drop t).set t (p.getD t 0) = p.take (t + 1) ++ q.drop (t + 1) := by
  have hpt : (p.take t).length = t := by rw [List.length_take]; omega
  rw [List.set_append_right _ _ (by omega), hpt, Nat.sub_self, List.drop_eq_getElem_cons (show t < q.length by omega), List.set_cons_zero, List.take_succ_eq_append_getElem (show t < p.length by omega), List.append_assoc]
  rw [List.getD_eq_getElem?_getD, List.getElem?_eq_getElem (show t < p.length by omega)]
  rfl

theorem set_same {α : Type} {l : List α} {i : Nat} {x : α} (h : l[i]? = some x) : l.set i x = l := by
  apply List.ext_getElem?
  intro j
  rw [List.getElem?_set]
  by_cases e : i = j
  · subst e
    rw [if_pos rfl, if_pos (List.getElem?_eq_some_iff.1 h).1, h]
  · rw [if_neg e]
/-! ### a crash, page by page -/
def crashR (s : Dk.St) (keep : List UInt8) (k : Nat) : Dk.St := { s with last := (Dk.crashTo s keep k).1, cache := upto s.last.length k (fun _ => none) (Dk.cacheAt s) }
theorem crashR_zero {s : Dk.St} (h : s.Ok) (keep : List UInt8) : crashR s keep 0 = s := by
  unfold crashR
  rw [upto_zero _ _ _ s.cache h.same (fun i hi => cache_at h hi)]
  rfl
theorem crashR_len (s : Dk.St) (keep : List UInt8) (k : Nat) : (crashR s keep k).last.length = s.last.length := Dk.crashTo_len s keep k
theorem crashR_clen (s : Dk.St) (keep : List UInt8) (k : Nat) : (crashR s keep k).cache.length = s.last.length := upto_length _ _ _ _
theorem crashR_cache {s : Dk.St} {keep : List UInt8} {k : Nat} (hk : k < s.last.length) : Dk.cacheAt (crashR s keep k) k = Dk.cacheAt s k := by
  show (upto s.last.length k (fun _ => none) (Dk.cacheAt s)).getD k none = _
  rw [List.getD_eq_getElem?_getD, upto_at _ _ _ _ k hk, if_neg (by omega)]; rfl
theorem crashR_none {s : Dk.St} {keep : List UInt8} {k : Nat} (h : Dk.cacheAt s k = none) : crashR s keep (k + 1) = crashR s keep k ∧ (Dk.crashTo s keep (k + 1)).2 = (Dk.crashTo s keep k).2 := by
  have e : Dk.crashTo s keep (k + 1) = Dk.crashTo s keep k := Dk.crashOne_none h
  unfold crashR
  rw [upto_same s.last.length k (fun _ => none) (Dk.cacheAt s) h.symm, e]
  exact ⟨rfl, rfl⟩
/-- how many bytes are kept -/
def keptOf (rest : List UInt8) : Nat := match rest with | [] => 0 | c :: _ => c.toNat % 65
theorem keptOf_le (rest : List UInt8) : keptOf rest ≤ 64 := by
  cases rest with
  | nil => exact Nat.zero_le _
  | cons c r => exact Nat.le_of_lt_succ (Nat.mod_lt _ (by omega))
theorem crash_row_at {s : Dk.St} {keep : List UInt8} {k : Nat} (hk : k < s.last.length) : (Dk.crashTo s keep k).1[k]? = some (Dk.lastAt s k) := by
  rw [Dk.crashTo_behind s keep k k (Nat.le_refl _)]; exact last_at hk
theorem crashR_some {s : Dk.St} {keep : List UInt8} {k : Nat} {p : List UInt8} (hk : k < s.last.length) (h : Dk.cacheAt s k = some p) :
    crashR s keep (k + 1) = { crashR s keep k with last := (crashR s keep k).last.set k (p.take (keptOf (Dk.crashTo s keep k).2) ++ (Dk.lastAt s k).drop (keptOf (Dk.crashTo s keep k).2)), cache := (crashR s keep k).cache.set k none } ∧
    (Dk.crashTo s keep (k + 1)).2 = (Dk.crashTo s keep k).2.tail := by
  unfold crashR
  rw [upto_succ s.last.length k (fun _ => none) (Dk.cacheAt s) hk]
  cases hr : (Dk.crashTo s keep k).2 with
  | nil =>
    have e : Dk.crashTo s keep (k + 1) = Dk.crashTo s keep k := Dk.crashOne_nil hr
    rw [e, hr]
    refine ⟨?_, rfl⟩
    have : (Dk.crashTo s keep k).1.set k (p.take 0 ++ (Dk.lastAt s k).drop 0) = (Dk.crashTo s keep k).1 := by
      rw [List.take_zero, List.nil_append, List.drop_zero]
      exact set_same (crash_row_at hk)
    show _ = _
    simp only [keptOf]
    rw [this]
  | cons c rest =>
    have e : Dk.crashTo s keep (k + 1) = ((Dk.crashTo s keep k).1.set k (Dk.torn (Dk.lastAt s k) p c), rest) := Dk.crashOne_some h hr
    rw [e]
    exact ⟨rfl, rfl⟩
theorem crashR_end (s : Dk.St) (keep : List UInt8) : Dk.crash s keep = { crashR s keep s.last.length with lim := false, left := 0, down := false } := by
  unfold Dk.crash crashR
  have e : (List.range s.last.length).map (fun _ => (none : Option (List UInt8))) = List.replicate s.last.length none := by simp [List.map_const']
  rw [upto_all, e]
structure InnerAt (wr : World) (a : Nat) (L : List (List UInt8)) (w : World) : Prop where
  rows : RowsAt w a L
  only : Only [a] wr w
theorem xKeep {W W' : World} {r b o : Nat} {v u x : Value} (h : W.cell? ⟨r, 0, none⟩ = some v ∧ W.cell? ⟨r, 1, none⟩ = some u ∧ W.cell? ⟨b, o, none⟩ = some x) (h1 : W'.heap[r]? = W.heap[r]?) (h2 : W'.heap[b]? = W.heap[b]?) :
    W'.cell? ⟨r, 0, none⟩ = some v ∧ W'.cell? ⟨r, 1, none⟩ = some u ∧ W'.cell? ⟨b, o, none⟩ = some x :=
  ⟨(World.cell?_of_block (w := W) (a := ⟨r, 0, none⟩) h1).trans h.1, (World.cell?_of_block (w := W) (a := ⟨r, 1, none⟩) h1).trans h.2.1, (World.cell?_of_block (w := W) (a := ⟨b, o, none⟩) h2).trans h.2.2⟩
end Go.Proofs.Ytaiikpfgnamgiaa
