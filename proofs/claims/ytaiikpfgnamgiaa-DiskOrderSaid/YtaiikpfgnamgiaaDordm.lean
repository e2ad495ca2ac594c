/-
  DiskOrder: the disk of sixteen pages that nothing was flushed of, and behind a flush.
-/
import Derived.Test.YtaiikpfgnamgiaaDrows
namespace Go.Proofs.Ytaiikpfgnamgiaa
open Go.RowKit
open Dk (zeros zeros_length)

def st16 (c : List (Option (List UInt8))) : Dk.St := { last := List.replicate 16 zeros, cache := c, lim := false, left := 0, down := false }
theorem st16_fresh : Dk.fresh 16 = st16 (List.replicate 16 none) := rfl
theorem st16_len (c : List (Option (List UInt8))) : (st16 c).last.length = 16 := by unfold st16; simp
theorem st16_reach (c : List (Option (List UInt8))) (i : Nat) (hi : i < 16) : Dk.reachE (st16 c) (i : Int) = 0 := Dk.reach_mk rfl (by rw [st16_len]; exact Dk.has_mk hi)
theorem st16_spend (c : List (Option (List UInt8))) : Dk.spendE (st16 c) = 0 := by unfold Dk.spendE st16; simp
theorem st16_spent (c : List (Option (List UInt8))) : Dk.spend (st16 c) = st16 c := by unfold Dk.spend st16; simp
theorem st16_writeE (c : List (Option (List UInt8))) (i : Nat) (hi : i < 16) : Dk.writeE (st16 c) (i : Int) = 0 := by
  unfold Dk.writeE
  rw [if_pos (st16_reach c i hi), st16_spend]
theorem st16_write (c : List (Option (List UInt8))) (i : Nat) (p : List UInt8) (hi : i < 16) : Dk.write (st16 c) (i : Int) p = st16 (c.set i (some p)) := by
  unfold Dk.write
  rw [if_pos (st16_reach c i hi), if_pos (st16_spend c), st16_spent, Int.toNat_natCast]
  rfl
theorem st16_lasts (c : List (Option (List UInt8))) (i : Nat) (hi : i < 16) : Dk.lastsP (st16 c) (i : Int) = zeros := by
  unfold Dk.lastsP
  rw [if_pos (by rw [st16_len]; exact Dk.has_mk hi), Int.toNat_natCast]
  unfold Dk.lastAt st16
  rw [List.getD_eq_getElem?_getD, List.getElem?_replicate, if_pos hi]; rfl
theorem st16_flushE (c : List (Option (List UInt8))) : Dk.flushE (st16 c) = 0 := by
  unfold Dk.flushE
  rw [if_neg (by show ¬ false = true; simp)]
  exact st16_spend c
def fl16 (c : List (Option (List UInt8))) : Dk.St := Dk.flush (st16 c)
theorem fl16_is (c : List (Option (List UInt8))) : fl16 c = Dk.flushed (st16 c) := by
  unfold fl16 Dk.flush
  rw [if_neg (by show ¬ false = true; simp), if_pos (st16_spend c), st16_spent]
theorem fl16_len (c : List (Option (List UInt8))) : (fl16 c).last.length = 16 := by rw [fl16_is]; unfold Dk.flushed; simp [st16_len]
theorem fl16_reach (c : List (Option (List UInt8))) (i : Nat) (hi : i < 16) : Dk.reachE (fl16 c) (i : Int) = 0 :=
  Dk.reach_mk (by rw [fl16_is]; rfl) (by rw [fl16_len]; exact Dk.has_mk hi)
theorem fl16_last (c : List (Option (List UInt8))) (i : Nat) (hi : i < 16) : Dk.lastAt (fl16 c) i = (c.getD i none).getD zeros := by
  rw [fl16_is]
  unfold Dk.lastAt Dk.flushed
  rw [List.getD_eq_getElem?_getD]
  show (((List.range (st16 c).last.length).map (Dk.nowAt (st16 c)))[i]?).getD [] = _
  rw [List.getElem?_map, List.getElem?_range (by rw [st16_len]; exact hi)]
  show Dk.nowAt (st16 c) i = _
  unfold Dk.nowAt Dk.cacheAt Dk.lastAt
  show (c.getD i none).getD ((List.replicate 16 zeros).getD i []) = _
  rw [List.getD_eq_getElem?_getD (l := List.replicate 16 zeros), List.getElem?_replicate, if_pos hi]; rfl
theorem fl16_cache (c : List (Option (List UInt8))) (i : Nat) : Dk.cacheAt (fl16 c) i = none := by
  rw [fl16_is]
  unfold Dk.cacheAt Dk.flushed
  show (List.replicate _ none).getD i none = none
  rw [List.getD_eq_getElem?_getD, List.getElem?_replicate]
  split <;> rfl
theorem fl16_read (c : List (Option (List UInt8))) (i : Nat) (hi : i < 16) : Dk.readP (fl16 c) (i : Int) = (c.getD i none).getD zeros := by
  unfold Dk.readP
  rw [if_pos (fl16_reach c i hi), Int.toNat_natCast]
  unfold Dk.nowAt
  rw [fl16_cache, Option.getD_none, fl16_last c i hi]
theorem fl16_lasts (c : List (Option (List UInt8))) (i : Nat) (hi : i < 16) : Dk.lastsP (fl16 c) (i : Int) = (c.getD i none).getD zeros := by
  unfold Dk.lastsP
  rw [if_pos (by rw [fl16_len]; exact Dk.has_mk hi), Int.toNat_natCast, fl16_last c i hi]
theorem fl16_count (c : List (Option (List UInt8))) : Dk.count (fl16 c) = 0 := by
  rw [fl16_is]
  unfold Dk.count Dk.flushed
  show (List.replicate _ none).countP _ = 0
  simp [List.countP_replicate]
/-- what the loop has: the disk, and the map beside it -/
structure OrdAt (w0 : World) (d l m q : Nat) (c : List (Option (List UInt8))) (s : Dk.St) (W : World) : Prop where
  live : Live w0 d l m s W
  map : MapAt W q c
  len : c.length = 16
  qd : q ≠ d
  ql : q ≠ l
  qm : q ≠ m
  qold : w0.heap.size ≤ q
  pages : ∀ i p, c.getD i none = some p → p.length = 64
theorem OrdAt.byBelow {w0 : World} {d l m q : Nat} {c : List (Option (List UInt8))} {s : Dk.St} {W W' : World} (h : OrdAt w0 d l m q c s W) (hb : Below W.heap.size W W') : OrdAt w0 d l m q c s W' :=
  ⟨h.live.byBelow hb, h.map.block (hb.block q h.map.lt), h.len, h.qd, h.ql, h.qm, h.qold, h.pages⟩
theorem OrdAt.byOnly {w0 : World} {d l m q : Nat} {c : List (Option (List UInt8))} {s s' : Dk.St} {W W' : World} {L : List Nat} (h : OrdAt w0 d l m q c s W) (hd : DiskAt W' d l m s') (ho : Only L W W') (hL : ∀ k ∈ L, k = d ∨ k = l ∨ k = m) : OrdAt w0 d l m q c s' W' :=
  ⟨h.live.byOnly hd ho hL, h.map.block (ho.block q h.map.lt (fun e => by have := h.qd; have := h.ql; have := h.qm; rcases hL q e with e | e | e <;> omega)), h.len, h.qd, h.ql, h.qm, h.qold, h.pages⟩
theorem OrdAt.byStore {w0 : World} {d l m q : Nat} {c : List (Option (List UInt8))} {s : Dk.St} {W W' : World} (h : OrdAt w0 d l m q c s W) (i : Nat) {p : List UInt8} (hp : p.length = 64) (hm : MapAt W' q (c.set i (some p))) (ht : W.mapTurned W' q) : OrdAt w0 d l m q (c.set i (some p)) s W' where
  live := ⟨h.live.disk.blocks (ht.grown.block d h.live.disk.dlt (fun e => h.qd (by injection e with e; exact e.symm))) (ht.grown.block l h.live.disk.llt (fun e => h.ql (by injection e with e; exact e.symm))) (ht.grown.block m h.live.disk.mlt (fun e => h.qm (by injection e with e; exact e.symm))),
    Only.toBelowOld h.live.below (Only.grown (l := [q]) ht.grown (by simp)) h.live.below.size (fun k hk => by simp at hk; have := h.qold; omega), h.live.old⟩
  map := hm
  len := by rw [List.length_set]; exact h.len
  qd := h.qd
  ql := h.ql
  qm := h.qm
  qold := h.qold
  pages := fun j r hr => by
    rw [List.getD_eq_getElem?_getD, List.getElem?_set] at hr
    by_cases e : i = j
    · rw [if_pos e] at hr
      split at hr
      · have : p = r := by simpa using hr
        rw [← this]; exact hp
      · cases hr
    · rw [if_neg e, ← List.getD_eq_getElem?_getD] at hr
      exact h.pages j r hr
theorem held_len {c : List (Option (List UInt8))} (h : ∀ i p, c.getD i none = some p → p.length = 64) (i : Nat) : ((c.getD i none).getD zeros).length = 64 := by
  cases hc : c.getD i none with
  | none => exact zeros_length
  | some p => exact h i p hc
end Go.Proofs.Ytaiikpfgnamgiaa
