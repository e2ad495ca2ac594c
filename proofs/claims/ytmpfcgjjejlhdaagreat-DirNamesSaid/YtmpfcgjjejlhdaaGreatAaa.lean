/- Texts of the proof. -/
import Derived.Test.YtmpfcgjjejlhdaaGreatRows
import Derived.WalkKit
import Derived.WalkSpells
import Derived.WalkLawsBesides
import Derived.Laws.BitsAllLaws
import Derived.Lib.Hide
import Derived.Deep.MidRow
import Derived.ChangeKeysEq
import Derived.Below
import Derived.Maps.OwnSet
import Derived.Maps.RangeWalk
import Derived.Deep.QuietTactic
import Derived.BigQuiet
import Derived.StillTailTactics
import Derived.Laws.MakeOwn
import Derived.Laws.IdiomCopy
import Derived.IntWalk
import Derived.Lib.SlBuf
set_option maxRecDepth 100000
set_option maxHeartbeats 16000000
namespace Go.Proofs.YtmpfcgjjejlhdaaGreat
theorem puA {α : Type _} (l : List α) (i : Nat) (a : α) : l.toArray.setIfInBounds i a = (l.set i a).toArray := List.setIfInBounds_toArray ..
theorem puB {α : Type _} (a b : α) (l : List α) : (a :: l).set 0 b = b :: l := List.set_cons_zero ..
theorem puC {α : Type _} (a b : α) (l : List α) (n : Nat) : (a :: l).set (n + 1) b = a :: l.set n b := List.set_cons_succ ..
namespace Dk
structure St where
  last : List (List UInt8)
  cache : List (Option (List UInt8))
  lim : Bool
  left : Int
  down : Bool
structure St.Ok (s : St) : Prop where
  same : s.cache.length = s.last.length
  pos : 1 ≤ s.last.length
  small : s.last.length ≤ 512
  pages : ∀ p ∈ s.last, p.length = 64
  cpages : ∀ p, some p ∈ s.cache → p.length = 64
  lo : -9223372036854775808 ≤ s.left
  hi : s.left ≤ 9223372036854775807
  live : s.lim = true → 0 ≤ s.left
def zeros : List UInt8 := List.replicate 64 0
theorem zeros_length : zeros.length = 64 := List.length_replicate
def hasB (n : Nat) (i : Int) : Bool := decide (0 ≤ i ∧ i < (n : Int))
theorem has_yes {n : Nat} {i : Int} (h : hasB n i = true) : 0 ≤ i ∧ i < (n : Int) := of_decide_eq_true h
theorem has_mk {n k : Nat} (h : k < n) : hasB n (k : Int) = true := decide_eq_true ⟨by omega, by omega⟩
def reachE (s : St) (i : Int) : Int := if s.down = true then 5 else if hasB s.last.length i = true then 0 else 22
def spendE (s : St) : Int := if s.lim = true ∧ s.left = 0 then 5 else 0
def spend (s : St) : St := if s.lim = true then (if s.left = 0 then { s with down := true } else { s with left := s.left - 1 }) else s
def put (s : St) (i : Nat) (p : List UInt8) : St := { s with cache := s.cache.set i (some p) }
def writeE (s : St) (i : Int) : Int := if reachE s i = 0 then spendE s else reachE s i
def write (s : St) (i : Int) (p : List UInt8) : St := if reachE s i = 0 then (if spendE s = 0 then put (spend s) i.toNat p else spend s) else s
def lastAt (s : St) (i : Nat) : List UInt8 := s.last.getD i []
def cacheAt (s : St) (i : Nat) : Option (List UInt8) := s.cache.getD i none
def nowAt (s : St) (i : Nat) : List UInt8 := (cacheAt s i).getD (lastAt s i)
def readP (s : St) (i : Int) : List UInt8 := if reachE s i = 0 then nowAt s i.toNat else zeros
def flushed (s : St) : St := { s with last := (List.range s.last.length).map (nowAt s), cache := List.replicate s.last.length none }
def flushE (s : St) : Int := if s.down = true then 5 else spendE s
def flush (s : St) : St := if s.down = true then s else if spendE s = 0 then flushed (spend s) else spend s
def torn (old new : List UInt8) (c : UInt8) : List UInt8 := new.take (c.toNat % 65) ++ old.drop (c.toNat % 65)
def crashOne (s : St) (i : Nat) (x : List (List UInt8) × List UInt8) : List (List UInt8) × List UInt8 :=
  match cacheAt s i, x.2 with
  | some p, c :: r => (x.1.set i (torn (lastAt s i) p c), r)
  | _, _ => x
def crashTo (s : St) (keep : List UInt8) : Nat → List (List UInt8) × List UInt8
  | 0 => (s.last, keep)
  | k + 1 => crashOne s k (crashTo s keep k)
def crash (s : St) (keep : List UInt8) : St := { last := (crashTo s keep s.last.length).1, cache := List.replicate s.last.length none, lim := false, left := 0, down := false }
def count (s : St) : Nat := s.cache.countP (·.isSome)
def fresh (n : Nat) : St := { last := List.replicate n zeros, cache := List.replicate n none, lim := false, left := 0, down := false }
theorem reach_zero {s : St} {i : Int} (h : reachE s i = 0) : s.down = false ∧ hasB s.last.length i = true := by
  unfold reachE at h
  by_cases c : s.down = true
  · rw [if_pos c] at h; omega
  · rw [if_neg c] at h
    by_cases e : hasB s.last.length i = true
    · exact ⟨by simpa using c, e⟩
    · rw [if_neg e] at h; omega
theorem reach_mk {s : St} {i : Int} (h1 : s.down = false) (h2 : hasB s.last.length i = true) : reachE s i = 0 := by
  unfold reachE; rw [h1, h2]; rfl
theorem spend_vals (s : St) : spendE s = 0 ∨ spendE s = 5 := by
  unfold spendE
  by_cases c : s.lim = true ∧ s.left = 0
  · rw [if_pos c]; omega
  · rw [if_neg c]; omega
theorem lastAt_len {s : St} (h : s.Ok) {i : Nat} (hi : i < s.last.length) : (lastAt s i).length = 64 := by
  unfold lastAt
  rw [List.getD_eq_getElem?_getD, List.getElem?_eq_getElem hi]
  exact h.pages _ (List.getElem_mem hi)
theorem cacheAt_len {s : St} (h : s.Ok) {i : Nat} {p : List UInt8} (hp : cacheAt s i = some p) : p.length = 64 := by
  unfold cacheAt at hp
  rw [List.getD_eq_getElem?_getD] at hp
  by_cases hi : i < s.cache.length
  · rw [List.getElem?_eq_getElem hi] at hp
    exact h.cpages p (by rw [← hp]; exact List.getElem_mem hi)
  · rw [List.getElem?_eq_none (by omega)] at hp; cases hp
theorem nowAt_len {s : St} (h : s.Ok) {i : Nat} (hi : i < s.last.length) : (nowAt s i).length = 64 := by
  unfold nowAt
  cases hc : cacheAt s i with
  | none => exact lastAt_len h hi
  | some p => exact cacheAt_len h hc
theorem readP_len {s : St} (h : s.Ok) (i : Int) : (readP s i).length = 64 := by
  unfold readP
  by_cases c : reachE s i = 0
  · rw [if_pos c]
    have := has_yes (reach_zero c).2
    exact nowAt_len h (by omega)
  · rw [if_neg c]; exact zeros_length
theorem torn_len {old new : List UInt8} (c : UInt8) (h1 : old.length = 64) (h2 : new.length = 64) : (torn old new c).length = 64 := by
  unfold torn
  rw [List.length_append, List.length_take, List.length_drop, h1, h2]
  have : c.toNat % 65 < 65 := Nat.mod_lt _ (by omega)
  omega
theorem spend_last (s : St) : (spend s).last = s.last := by unfold spend; split <;> (try split) <;> rfl
theorem spend_cache (s : St) : (spend s).cache = s.cache := by unfold spend; split <;> (try split) <;> rfl
theorem spend_lim (s : St) : (spend s).lim = s.lim := by unfold spend; split <;> (try split) <;> rfl
theorem spend_ok {s : St} (h : s.Ok) : (spend s).Ok := by
  unfold spend
  split
  · rename_i hl
    have := h.live hl
    split
    · exact ⟨h.same, h.pos, h.small, h.pages, h.cpages, h.lo, h.hi, h.live⟩
    · rename_i hn
      exact ⟨h.same, h.pos, h.small, h.pages, h.cpages, by show _ ≤ s.left - 1; omega, by show s.left - 1 ≤ _; have := h.hi; omega, fun _ => by show 0 ≤ s.left - 1; omega⟩
  · exact h
theorem put_ok {s : St} (h : s.Ok) (i : Nat) {p : List UInt8} (hp : p.length = 64) : (put s i p).Ok where
  same := by unfold put; rw [List.length_set]; exact h.same
  pos := h.pos
  small := h.small
  pages := h.pages
  cpages := fun q hq => by
    rcases List.mem_or_eq_of_mem_set hq with h1 | h1
    · exact h.cpages q h1
    · injection h1 with h1; rw [h1]; exact hp
  lo := h.lo
  hi := h.hi
  live := h.live
theorem flushed_ok {s : St} (h : s.Ok) : (flushed s).Ok where
  same := by unfold flushed; simp
  pos := by unfold flushed; simpa using h.pos
  small := by unfold flushed; simpa using h.small
  pages := fun p hp => by
    obtain ⟨i, hi, rfl⟩ := List.mem_map.1 hp
    exact nowAt_len h (List.mem_range.1 hi)
  cpages := fun p hp => by
    have := List.eq_of_mem_replicate hp
    cases this
  lo := h.lo
  hi := h.hi
  live := h.live
theorem crashOne_some {s : St} {i : Nat} {x : List (List UInt8) × List UInt8} {p : List UInt8} {c : UInt8} {r : List UInt8} (h1 : cacheAt s i = some p) (h2 : x.2 = c :: r) : crashOne s i x = (x.1.set i (torn (lastAt s i) p c), r) := by
  unfold crashOne; rw [h1, h2]
theorem crashOne_none {s : St} {i : Nat} {x : List (List UInt8) × List UInt8} (h1 : cacheAt s i = none) : crashOne s i x = x := by
  unfold crashOne; rw [h1]
theorem crashOne_nil {s : St} {i : Nat} {x : List (List UInt8) × List UInt8} (h1 : x.2 = []) : crashOne s i x = x := by
  unfold crashOne; rw [h1]; cases cacheAt s i <;> rfl
theorem crashOne_cases (s : St) (i : Nat) (x : List (List UInt8) × List UInt8) : crashOne s i x = x ∨ ∃ p c r, cacheAt s i = some p ∧ x.2 = c :: r ∧ crashOne s i x = (x.1.set i (torn (lastAt s i) p c), r) := by
  cases h1 : cacheAt s i with
  | none => exact Or.inl (crashOne_none h1)
  | some p =>
    cases h2 : x.2 with
    | nil => exact Or.inl (crashOne_nil h2)
    | cons c r => exact Or.inr ⟨p, c, r, rfl, rfl, crashOne_some h1 h2⟩
theorem crashTo_len (s : St) (keep : List UInt8) : ∀ k, (crashTo s keep k).1.length = s.last.length
  | 0 => rfl
  | k + 1 => by
    rw [crashTo]
    rcases crashOne_cases s k (crashTo s keep k) with e | ⟨p, c, r, _, _, e⟩
    · rw [e]; exact crashTo_len s keep k
    · rw [e, List.length_set]; exact crashTo_len s keep k
theorem crashTo_pages {s : St} (h : s.Ok) (keep : List UInt8) : ∀ k, k ≤ s.last.length → ∀ p ∈ (crashTo s keep k).1, p.length = 64
  | 0, _ => h.pages
  | k + 1, hk => by
    rw [crashTo]
    rcases crashOne_cases s k (crashTo s keep k) with e | ⟨p, c, r, hp, _, e⟩
    · rw [e]; exact crashTo_pages h keep k (by omega)
    · rw [e]
      intro q hq
      rcases List.mem_or_eq_of_mem_set hq with h1 | h1
      · exact crashTo_pages h keep k (by omega) q h1
      · rw [h1]; exact torn_len c (lastAt_len h (by omega)) (cacheAt_len h hp)
theorem fresh_ok {n : Nat} (h1 : 1 ≤ n) (h2 : n ≤ 512) : (fresh n).Ok where
  same := by unfold fresh; simp
  pos := by unfold fresh; simpa using h1
  small := by unfold fresh; simpa using h2
  pages := fun p hp => by rw [List.eq_of_mem_replicate hp]; exact zeros_length
  cpages := fun p hp => by
    have := List.eq_of_mem_replicate hp
    cases this
  lo := by show _ ≤ (0 : Int); omega
  hi := by show (0 : Int) ≤ _; omega
  live := fun e => by cases e
theorem count_le (s : St) : count s ≤ s.cache.length := List.countP_le_length
theorem write_len (s : St) (i : Int) (p : List UInt8) : (write s i p).last.length = s.last.length := by
  unfold write
  split
  · split
    · show (put (spend s) _ p).last.length = _; unfold put; rw [spend_last]
    · rw [spend_last]
  · rfl
theorem flush_len (s : St) : (flush s).last.length = s.last.length := by
  unfold flush
  split
  · rfl
  · split
    · unfold flushed; simp [spend_last]
    · rw [spend_last]
theorem crash_len (s : St) (keep : List UInt8) : (crash s keep).last.length = s.last.length := crashTo_len _ _ _
end Dk

section
open Go.RowKit
theorem ret_int {k : IntKind} {a b : Int} (h : a = b) : Ending.returned (.int k a) = .returned (.int k b) := by rw [h]
theorem ret_bool {a b : Bool} (h : a = b) : Ending.returned (.bool a) = .returned (.bool b) := by rw [h]
def byteVals (p : List UInt8) : List Value := p.map fun c => Value.int .u8 (c.toNat : Int)
theorem byteVals_length (p : List UInt8) : (byteVals p).length = p.length := by simp [byteVals]
theorem byteVals_one (p : List UInt8) : ∀ v ∈ byteVals p, v.oneCell' = true := by
  intro v hv
  obtain ⟨c, _, rfl⟩ := List.mem_map.1 hv
  rfl
theorem byteVals_at (p : List UInt8) (j : Nat) (h : j < p.length) : (byteVals p)[j]? = some (.int .u8 (p[j].toNat : Int)) := by
  unfold byteVals
  rw [List.getElem?_map, List.getElem?_eq_getElem h]; rfl
theorem byteVals_set (p : List UInt8) (i : Nat) (c : UInt8) : (byteVals p).set i (.int .u8 (c.toNat : Int)) = byteVals (p.set i c) := by
  unfold byteVals; rw [List.map_set]
theorem byteVals_inj (p q : List UInt8) (h : byteVals p = byteVals q) : p = q := by
  unfold byteVals at h
  refine List.map_inj_right (fun a b hab => ?_) |>.1 h
  injection hab with _ hab
  exact UInt8.toNat_inj.1 (by omega)
def pageV (p : List UInt8) : Value := .agg (byteVals p).toArray
theorem pageV_def (p : List UInt8) : Value.agg (byteVals p).toArray = pageV p := rfl
theorem page_info : (Tryz.prog.info? 97).map (·.size) = some 64 := by kernel_rfl
theorem cells8 : Tryz.prog.cellsOf 5 = 1 := by kernel_rfl
structure PageAt (w : World) (b : Nat) (p : List UInt8) : Prop where
  len : p.length = 64
  range : w.rangeAt b 0 (byteVals p)
  free : w.there b 0 64
theorem PageAt.cell {w : World} {b : Nat} {p : List UInt8} (h : PageAt w b p) (j : Nat) (hj : j < 64) : w.cell? ⟨b, j, none⟩ = some (.int .u8 ((p.getD j 0).toNat : Int)) := by
  have hj' : j < p.length := by rw [h.len]; exact hj
  have := h.range j _ (byteVals_at p j hj')
  rw [Nat.zero_add] at this
  rw [this, List.getD_eq_getElem?_getD, List.getElem?_eq_getElem hj']; rfl
theorem PageAt.isSome {w : World} {b : Nat} {p : List UInt8} (h : PageAt w b p) (j : Nat) (hj : j < 64) : (w.cell? ⟨b, j, none⟩).isSome = true := by
  rw [h.cell j hj]; rfl
theorem PageAt.frozen {w : World} {b : Nat} {p : List UInt8} (h : PageAt w b p) (j : Nat) (hj : j < 64) : w.frozen? ⟨b, j, none⟩ = false := by
  have := (h.free j hj).2
  rwa [Nat.zero_add] at this
theorem PageAt.lt {w : World} {b : Nat} {p : List UInt8} (h : PageAt w b p) : b < w.heap.size :=
  World.block_lt_of_cell? w _ (h.cell 0 (by omega))
theorem there_new (w : World) (Z : Array Value) (t : TypeId) (n : Nat) (h : n ≤ Z.size) : (w.alloc (.cells Z t)).there w.heap.size 0 n := by
  intro j hj
  rw [Nat.zero_add, World.cell?_alloc_mark, World.frozen?_alloc_mark, Array.getElem?_eq_getElem (by omega)]
  exact ⟨rfl, by simp⟩
theorem pageAt_new (w : World) (p : List UInt8) (t : TypeId) (hp : p.length = 64) : PageAt (w.alloc (.cells (byteVals p).toArray t)) w.heap.size p where
  len := hp
  range := fun j v hv => by
    rw [Nat.zero_add, World.cell?_alloc_mark]
    simpa using hv
  free := there_new w _ t _ (by rw [List.size_toArray, byteVals_length]; omega)
theorem PageAt.alloc {w : World} {b : Nat} {p : List UInt8} (h : PageAt w b p) (o : Obj) : PageAt (w.alloc o) b p := ⟨h.len, World.rangeAt_alloc h.range o, World.there_alloc h.free o⟩
theorem PageAt.drew {w : World} {b : Nat} {p : List UInt8} (h : PageAt w b p) : PageAt w.drew b p := ⟨h.len, (World.rangeAt_drew ..).2 h.range, (World.there_drew ..).2 h.free⟩
theorem PageAt.below {n : Nat} {w w' : World} {b : Nat} {p : List UInt8} (h : PageAt w b p) (hb : Below n w w') (hn : b < n) : PageAt w' b p where
  len := h.len
  range := fun j v hv => (hb.cell (p := ⟨b, 0 + j, none⟩) hn).trans (h.range j v hv)
  free := fun j hj => by
    rw [hb.cell (p := ⟨b, 0 + j, none⟩) hn, hb.frozen (p := ⟨b, 0 + j, none⟩) hn]
    exact h.free j hj
theorem PageAt.set {w : World} {b : Nat} {p : List UInt8} (h : PageAt w b p) (i : Nat) (c : UInt8) (hi : i < 64) : PageAt (w.setCell ⟨b, i, none⟩ (.int .u8 (c.toNat : Int))) b (p.set i c) where
  len := by rw [List.length_set, h.len]
  range := fun j v hv => by
    rw [Nat.zero_add]
    rw [← byteVals_set, List.getElem?_set] at hv
    by_cases e : i = j
    · subst e
      rw [if_pos rfl, if_pos (by rw [byteVals_length, h.len]; exact hi)] at hv
      injection hv with hv
      rw [← hv]
      exact World.cell?_setCell_same' _ _ _ (h.isSome i hi)
    · rw [if_neg e] at hv
      rw [World.cell?_setCell_other _ _ _ _ (fun q => e (by injection q))]
      have := h.range j v hv
      rwa [Nat.zero_add] at this
  free := fun j hj => by
    rw [Nat.zero_add]
    refine ⟨?_, by rw [World.frozen?_setCell]; exact h.frozen j hj⟩
    by_cases e : i = j
    · subst e
      rw [World.cell?_setCell_same' _ _ _ (h.isSome i hi)]; rfl
    · rw [World.cell?_setCell_other _ _ _ _ (fun q => e (by injection q))]
      exact h.isSome j hj
theorem PageAt.set_other {w : World} {b : Nat} {p : List UInt8} (h : PageAt w b p) (b' i : Nat) (v : Value) (hb : b ≠ b') : PageAt (w.setCell ⟨b', i, none⟩ v) b p where
  len := h.len
  range := fun j u hu => by
    rw [World.cell?_setCell_other _ _ _ _ (fun q => hb (by injection q with q; exact q.symm))]; exact h.range j u hu
  free := fun j hj => by
    rw [World.cell?_setCell_other _ _ _ _ (fun q => hb (by injection q with q; exact q.symm)), World.frozen?_setCell]; exact h.free j hj
theorem PageAt.put {w : World} {b : Nat} {p : List UInt8} (h : PageAt w b p) (q : List UInt8) (hq : q.length = 64) : PageAt (w.setCells b 0 (byteVals q)) b q where
  len := hq
  range := World.rangeAt_setCells_same _ _ _ _ (by rw [byteVals_length, hq]; exact h.free)
  free := World.there_setCells h.free _ _ _
theorem PageAt.put_other {w : World} {b : Nat} {p : List UInt8} (h : PageAt w b p) (b' o : Nat) (vs : List Value) (hb : b ≠ b') : PageAt (w.setCells b' o vs) b p where
  len := h.len
  range := World.rangeAt_setCells_apart h.range _ _ _ (Or.inl hb)
  free := World.there_setCells h.free _ _ _
theorem below_setCells {B : Nat} {a : World} (b : Nat) (hb : B ≤ b) : ∀ (vs : List Value) (o : Nat) (w : World), Below B a w → Below B a (w.setCells b o vs)
  | [], _, _, h => h
  | v :: r, o, w, h => by
    rw [World.setCells]
    exact below_setCells b hb r (o + 1) _ (h.setCell (by exact hb) v)
theorem heap_setCells (b : Nat) : ∀ (vs : List Value) (o : Nat) (w : World), (w.setCells b o vs).heap.size = w.heap.size
  | [], _, _ => rfl
  | v :: r, o, w => by
    rw [World.setCells, heap_setCells b r (o + 1)]; simp
theorem results_page (fn : Func) (s : Nat) (hf : fn.results = #[.cell s 97]) {w : World} {b : Nat} {q : List UInt8} (tmps : Array Value) (h : PageAt w b q) (ht : tmps.getD s undef = .pointer (some ⟨b, 0, none⟩)) :
    (results fn tmps).run Tryz.prog w = .ok (pageV q) w := by
  have hl := run_loadVar_mid (P := Tryz.prog) w b 0 97 (byteVals q) _ h.range Tryz.underlying97 rfl (by rw [page_info, byteVals_length, h.len])
  unfold results
  rw [hf]
  simp only [Array.mapM_eq_mapM_toList, List.mapM_cons, List.mapM_nil, ht, asAddr, Sem.run_bind, Sem.run_pure, Result.andThen_ok, hl, Sem.run_map]
  rfl
theorem wpList_load_page {ops : Array Oper} {rest : List Oper} {op : Oper} {a : Act} {Q : Exit → Act → World → Prop} {w : World} {b : Nat} {p : List UInt8} (hp : PageAt w b p) (hgd : op.guard = none) (x : Operand) (ho : op.op = .load 97 x)
    (hx : a.eval x = .pointer (some ⟨b, 0, none⟩)) (h : wpList Tryz.prog ops Q rest (a.put op.dst (pageV p)) w) : wpList Tryz.prog ops Q (op :: rest) a w :=
  wpList_load_mid hgd 97 x ho b 0 hx (byteVals p) _ hp.range Tryz.underlying97 rfl (by rw [page_info, byteVals_length, hp.len]) h
theorem wpList_load_guarded {ops : Array Oper} {rest : List Oper} {op : Oper} {a : Act} {Q : Exit → Act → World → Prop} {w : World} {b : Nat} {p : List UInt8} (hp : PageAt w b p) (x : Operand) (ho : op.op = .load 97 x)
    (hx : a.eval x = .pointer (some ⟨b, 0, none⟩)) (hw : Region.wanted op (yielded ops a.tmps) = true) (h : wpList Tryz.prog ops Q rest (a.put op.dst (pageV p)) w) : wpList Tryz.prog ops Q (op :: rest) a w :=
  BigFrame.wpList_want hw fun _ hK => wp_load_mid 97 x ho b 0 hx (byteVals p) _ hp.range Tryz.underlying97 rfl (by rw [page_info, byteVals_length, hp.len]) (hK _ _ h)
theorem PageAt.loads {w : World} {b : Nat} {p : List UInt8} (h : PageAt w b p) : (loadVar 97 ⟨b, 0, none⟩).run Tryz.prog w = .ok (pageV p) w :=
  run_loadVar_mid (P := Tryz.prog) w b 0 97 (byteVals p) _ h.range Tryz.underlying97 rfl (by rw [page_info, byteVals_length, h.len])
theorem PageAt.loadsAt {w : World} {b : Nat} {p : List UInt8} (h : PageAt w b p) : (Instr.loadAt 97 (.pointer (some ⟨b, 0, none⟩))).run Tryz.prog w = .ok (pageV p) w :=
  run_loadAt_mid (P := Tryz.prog) w b 0 97 (byteVals p) _ h.range Tryz.underlying97 rfl (by rw [page_info, byteVals_length, h.len])
theorem wpList_store_new {ops : Array Oper} {rest : List Oper} {op : Oper} {a : Act} {Q : Exit → Act → World → Prop} {w : World} {Z : Array Value} {t : TypeId} {p : List UInt8} (hgd : op.guard = none) (x y : Operand) (ho : op.op = .store 97 x y)
    (hx : a.eval x = .pointer (some ⟨w.heap.size, 0, none⟩)) (hy : a.eval y = pageV p) (hZ : Z.size = 64) (hp : p.length = 64)
    (h : ∀ W2, PageAt W2 w.heap.size p → Below w.heap.size w W2 → W2.heap.size = w.heap.size + 1 → wpList Tryz.prog ops Q rest (a.put op.dst undef) W2) :
    wpList Tryz.prog ops Q (op :: rest) a (w.alloc (.cells Z t)) := by
  have hlen : (byteVals p).toArray.size = 64 := by rw [List.size_toArray, byteVals_length, hp]
  have ht : (w.alloc (.cells Z t)).there w.heap.size 0 64 := there_new w Z t _ (by omega)
  refine wpList_store_mid hgd 97 x y ho w.heap.size 0 (byteVals p).toArray hx hy (by rw [hlen]; exact ht) (by rw [page_info, hlen]) (all_oneCell_toArray (byteVals_one p)) (h _ ?_ ?_ ?_)
  · exact ⟨hp, World.rangeAt_setCells_same _ _ _ _ (by rw [List.toList_toArray, byteVals_length, hp]; exact ht), World.there_setCells ht _ _ _⟩
  · exact below_setCells _ (Nat.le_refl _) _ _ _ ((Below.refl _ _).alloc (Nat.le_refl _) _)
  · rw [heap_setCells]; simp
theorem wpList_store_page {ops : Array Oper} {rest : List Oper} {op : Oper} {a : Act} {Q : Exit → Act → World → Prop} {w : World} {b : Nat} {q p : List UInt8} (hq : PageAt w b q) (hp : p.length = 64) (hgd : op.guard = none) (x y : Operand) (ho : op.op = .store 97 x y)
    (hx : a.eval x = .pointer (some ⟨b, 0, none⟩)) (hy : a.eval y = pageV p) (h : wpList Tryz.prog ops Q rest (a.put op.dst undef) (w.setCells b 0 (byteVals p))) : wpList Tryz.prog ops Q (op :: rest) a w :=
  wpList_store_mid hgd 97 x y ho b 0 (byteVals p).toArray hx hy (by rw [List.size_toArray, byteVals_length, hp]; exact hq.free) (by rw [page_info, List.size_toArray, byteVals_length, hp]) (all_oneCell_toArray (byteVals_one p)) (by simpa using h)
theorem info8 : ∃ i, Tryz.prog.info? 5 = some i := by
  cases h : Tryz.prog.info? 5 with
  | none => have e : (Tryz.prog.info? 5).isSome = true := by kernel_rfl
            rw [h] at e; cases e
  | some i => exact ⟨i, rfl⟩
theorem arrP : Tryz.prog.arrayLen 97 = 64 := by kernel_rfl
theorem elemP : Tryz.prog.elem 97 = 5 := by kernel_rfl
theorem run_size8 (w : World) : (sizeOf 5).run Tryz.prog w = .ok 1 w := by
  obtain ⟨i, hi⟩ := info8
  rw [run_sizeOf w hi, cells8]
theorem underP : Tryz.prog.underlying 97 = some (.array (Tryz.prog.arrayLen 97) (Tryz.prog.elem 97)) := by rw [arrP, elemP]; exact Tryz.underlying97
theorem run_slice_page (w : World) (b a n : Nat) (h1 : 1 ≤ n) (h : a + n ≤ 64) :
    (Instr.sliceAt 97 (.pointer (some ⟨b, 0, none⟩)) (some (.int .i64 (a : Int))) (some (.int .i64 ((a : Int) + (n : Int)))) none).run Tryz.prog w = .ok (.slice (some ⟨b, a, none⟩) n (64 - a)) w := by
  rw [run_sliceAt_array_lh w _ _ underP .i64 .i64 (a : Int) ((a : Int) + (n : Int)) (by omega) (by omega) (by rw [arrP]; omega), elemP, run_size8, arrP, Result.andThen_ok]
  unfold slicedAt
  have e1 : (a : Int).toNat = a := Int.toNat_natCast a
  have e2 : ((a : Int) + (n : Int)).toNat - a = n := by omega
  rw [e1, e2, if_neg (by omega), Nat.mul_one, Addr.add_mid, Nat.zero_add]
theorem run_slice_page_all (w : World) (b : Nat) :
    (Instr.sliceAt 97 (.pointer (some ⟨b, 0, none⟩)) none none none).run Tryz.prog w = .ok (.slice (some ⟨b, 0, none⟩) 64 64) w := by
  rw [run_sliceAt_array_all w _ _ underP, elemP, run_size8, arrP, Result.andThen_ok]
  unfold slicedAt
  rw [if_neg (by omega), Nat.zero_mul, Addr.add_mid]
open Dk (zeros zeros_length)
def zeroCells : Array Value := (byteVals zeros).toArray
theorem pageAt_zeros (w : World) (t : TypeId) : PageAt (w.alloc (.cells zeroCells t)) w.heap.size zeros := pageAt_new w zeros t zeros_length
theorem zeroCells_def : zeroCells = #[.int .u8 0, .int .u8 0, .int .u8 0, .int .u8 0, .int .u8 0, .int .u8 0, .int .u8 0, .int .u8 0, .int .u8 0, .int .u8 0, .int .u8 0, .int .u8 0, .int .u8 0, .int .u8 0, .int .u8 0, .int .u8 0,
    .int .u8 0, .int .u8 0, .int .u8 0, .int .u8 0, .int .u8 0, .int .u8 0, .int .u8 0, .int .u8 0, .int .u8 0, .int .u8 0, .int .u8 0, .int .u8 0, .int .u8 0, .int .u8 0, .int .u8 0, .int .u8 0,
    .int .u8 0, .int .u8 0, .int .u8 0, .int .u8 0, .int .u8 0, .int .u8 0, .int .u8 0, .int .u8 0, .int .u8 0, .int .u8 0, .int .u8 0, .int .u8 0, .int .u8 0, .int .u8 0, .int .u8 0, .int .u8 0,
    .int .u8 0, .int .u8 0, .int .u8 0, .int .u8 0, .int .u8 0, .int .u8 0, .int .u8 0, .int .u8 0, .int .u8 0, .int .u8 0, .int .u8 0, .int .u8 0, .int .u8 0, .int .u8 0, .int .u8 0, .int .u8 0] := rfl
theorem run_part8 (w : World) (p : List UInt8) (i : Nat) (h : i < p.length) : (part 5 (byteVals p).toArray i).run Tryz.prog w = .ok (.int .u8 (p[i].toNat : Int)) w := by
  have e : ((byteVals p).toArray)[i]? = some (.int .u8 (p[i].toNat : Int)) := by rw [List.getElem?_toArray]; exact byteVals_at p i h
  have ha : (isAgg 5).run Tryz.prog w = .ok false w := by
    unfold isAgg
    rw [Sem.run_bind, run_underlying Tryz.underlying5 w]; rfl
  unfold part
  rw [Sem.run_bind, ha]
  simp only [Result.andThen_ok, e]
  rfl
theorem run_eqBytes (w : World) (p q : List UInt8) (hl : p.length = q.length) (d : Nat) : ∀ (n i : Nat), i + n = p.length →
    (Op.eqItems (d + 1) 5 1 (byteVals p).toArray (byteVals q).toArray (List.range' i n)).run Tryz.prog w = .ok (decide (p.drop i = q.drop i)) w
  | 0, i, h => by
    rw [List.range'_zero, Op.eqItems, List.drop_of_length_le (by omega), List.drop_of_length_le (by omega)]; rfl
  | n + 1, i, h => by
    have hp : i < p.length := by omega
    have hq : i < q.length := by omega
    have e1 := run_part8 w p i hp
    have e2 := run_part8 w q i hq
    have e3 := run_equalIn_int (P := Tryz.prog) w d 5 .u8 .u8 (p[i].toNat : Int) (q[i].toNat : Int) Tryz.underlying5
    have ih := run_eqBytes w p q hl d n (i + 1) (by omega)
    rw [List.range'_succ, Op.eqItems, Nat.mul_one]
    simp only [Sem.run_bind, e1, e2, e3, Result.andThen_ok]
    have dp : p.drop i = p[i] :: p.drop (i + 1) := List.drop_eq_getElem_cons hp
    have dq : q.drop i = q[i] :: q.drop (i + 1) := List.drop_eq_getElem_cons hq
    by_cases c : p[i] = q[i]
    · have c1 : ((p[i].toNat : Int) == (q[i].toNat : Int)) = true := by rw [c]; exact beq_self_eq_true _
      rw [c1]
      simp only [Bool.not_true, Bool.false_eq_true, if_false]
      rw [ih]
      congr 1
      rw [dp, dq, decide_eq_decide, c, List.cons.injEq]
      exact ⟨fun h => ⟨rfl, h⟩, fun h => h.2⟩
    · have c1 : ((p[i].toNat : Int) == (q[i].toNat : Int)) = false := by
        rw [beq_eq_false_iff_ne]
        intro e
        exact c (UInt8.toNat_inj.1 (by omega))
      rw [c1]
      simp only [Bool.not_false, if_true]
      rw [Sem.run_pure]
      congr 1
      rw [dp, dq]
      symm
      rw [decide_eq_false_iff_not]
      intro e
      exact c (by injection e)
theorem run_eqPages (w : World) (p q : List UInt8) (hp : p.length = 64) (hq : q.length = 64) : (Op.equalIn 10000 97 (pageV p) (pageV q)).run Tryz.prog w = .ok (decide (p = q)) w := by
  obtain ⟨i, hi⟩ := info8
  unfold pageV
  rw [run_equalIn_array w 9999 _ _ Tryz.underlying97 hi, cells8, List.range_eq_range']
  have := run_eqBytes w p q (hp.trans hq.symm) 9998 64 0 (by omega)
  simpa using this
theorem run_neq_page (w : World) (p q : List UInt8) (hp : p.length = 64) (hq : q.length = 64) : (binOp .neq 97 (pageV p) (pageV q)).run Tryz.prog w = .ok (.bool (!decide (p = q))) w := by
  have h := run_eqPages w p q hp hq
  unfold pageV at h ⊢
  rw [run_neq_struct, h]; rfl
end

section
open Go.RowKit Go.Maps Go.MapKept Go.ChangeMaps
open Dk (zeros zeros_length)
structure Only (l : List Nat) (w w' : World) : Prop where
  os : w'.os = w.os
  tape : w'.tape = w.tape
  output : w'.output = w.output
  size : w.heap.size ≤ w'.heap.size
  block : ∀ k, k < w.heap.size → k ∉ l → w'.heap[k]? = w.heap[k]?
theorem Only.refl (l : List Nat) (w : World) : Only l w w := ⟨rfl, rfl, rfl, Nat.le_refl _, fun _ _ _ => rfl⟩
theorem Only.trans {l : List Nat} {a b c : World} (h : Only l a b) (k : Only l b c) : Only l a c :=
  ⟨k.os.trans h.os, k.tape.trans h.tape, k.output.trans h.output, Nat.le_trans h.size k.size, fun i hi hn => (k.block i (Nat.lt_of_lt_of_le hi h.size) hn).trans (h.block i hi hn)⟩
theorem Only.mono {l l' : List Nat} {w w' : World} (h : Only l w w') (hl : ∀ k ∈ l, k ∈ l') : Only l' w w' := ⟨h.os, h.tape, h.output, h.size, fun k hk hn => h.block k hk (fun e => hn (hl k e))⟩
theorem Only.drew {l : List Nat} {a w : World} (h : Only l a w) : Only l a w.drew := ⟨h.os, h.tape, h.output, h.size, h.block⟩
theorem Only.alloc {l : List Nat} {a w : World} (h : Only l a w) (o : Obj) : Only l a (w.alloc o) :=
  h.trans ⟨rfl, rfl, rfl, by simp, fun k hk _ => Below.heap_alloc _ _ _ hk⟩
theorem Only.setCell {l : List Nat} {a w : World} (h : Only l a w) {p : Addr} (hp : p.block ∈ l) (u : Value) : Only l a (w.setCell p u) :=
  h.trans ⟨rfl, rfl, rfl, by simp [World.setCell], fun k _ hn => Below.heap_setCell _ _ _ _ (fun e => hn (e ▸ hp))⟩
theorem Only.setCells {l : List Nat} {a : World} (b : Nat) (hb : b ∈ l) : ∀ (vs : List Value) (o : Nat) (w : World), Only l a w → Only l a (w.setCells b o vs)
  | [], _, _, h => h
  | v :: r, o, w, h => by
    rw [World.setCells]
    exact Only.setCells b hb r (o + 1) _ (h.setCell (by exact hb) v)
theorem Only.below {l : List Nat} {w w' : World} (h : Below w.heap.size w w') : Only l w w' := ⟨h.os, h.tape, h.output, h.size, fun k hk _ => h.block k hk⟩
theorem Only.ofBelow {l : List Nat} {a w w' : World} (h : Only l a w) (k : Below w.heap.size w w') : Only l a w' := h.trans (Only.below k)
theorem Only.grown {l : List Nat} {w w' : World} {b : Nat} (h : w.grownBy w' (some b)) (hb : b ∈ l) : Only l w w' :=
  ⟨h.os, h.tape, h.output, h.size, fun k hk hn => h.block k hk (fun e => by injection e with e; exact hn (e ▸ hb))⟩
theorem Only.grownNone {l : List Nat} {w w' : World} (h : w.grownBy w' none) : Only l w w' :=
  ⟨h.os, h.tape, h.output, h.size, fun k hk _ => h.block k hk (fun e => by cases e)⟩
theorem Only.toBelow {l : List Nat} {B : Nat} {w w' : World} (h : Only l w w') (hB : B ≤ w.heap.size) (hl : ∀ k ∈ l, B ≤ k) : Below B w w' :=
  ⟨h.os, h.tape, h.output, h.size, fun k hk => h.block k (by omega) (fun e => by have := hl k e; omega)⟩
theorem Only.toBelowOld {l : List Nat} {B : Nat} {a w w' : World} (h0 : Below B a w) (h : Only l w w') (hB : B ≤ w.heap.size) (hl : ∀ k ∈ l, B ≤ k) : Below B a w' := h0.trans (h.toBelow hB hl)
theorem Only.cell {l : List Nat} {w w' : World} (h : Only l w w') {p : Addr} (hp : p.block < w.heap.size) (hn : p.block ∉ l) : w'.cell? p = w.cell? p := World.cell?_of_block (w := w) (h.block _ hp hn)
theorem rangeAt_block {w w' : World} {b o : Nat} {cs : List Value} (h : w.rangeAt b o cs) (hb : w'.heap[b]? = w.heap[b]?) : w'.rangeAt b o cs := fun j v hv => (World.cell?_of_block (w := w) (a := ⟨b, o + j, none⟩) hb).trans (h j v hv)
theorem there_block {w w' : World} {b o n : Nat} (h : w.there b o n) (hb : w'.heap[b]? = w.heap[b]?) : w'.there b o n := fun j hj => by
  rw [World.cell?_of_block (w := w) (a := ⟨b, o + j, none⟩) hb, World.frozen?_of_block (w := w) (a := ⟨b, o + j, none⟩) hb]; exact h j hj
theorem heap_setCells_other (b : Nat) : ∀ (vs : List Value) (o : Nat) (w : World) (k : Nat), k ≠ b → (w.setCells b o vs).heap[k]? = w.heap[k]?
  | [], _, _, _, _ => rfl
  | v :: r, o, w, k, hk => by
    rw [World.setCells, heap_setCells_other b r (o + 1) _ k hk]
    exact Below.heap_setCell _ _ _ _ hk
structure RowsAt (w : World) (b : Nat) (ps : List (List UInt8)) : Prop where
  size : ∀ p ∈ ps, p.length = 64
  range : ∀ i p, ps[i]? = some p → w.rangeAt b (i * 64) (byteVals p)
  free : w.there b 0 (ps.length * 64)
theorem RowsAt.block {w w' : World} {b : Nat} {ps : List (List UInt8)} (h : RowsAt w b ps) (hb : w'.heap[b]? = w.heap[b]?) : RowsAt w' b ps :=
  ⟨h.size, fun i p hp => rangeAt_block (h.range i p hp) hb, there_block h.free hb⟩
theorem RowsAt.thereAt {w : World} {b : Nat} {ps : List (List UInt8)} (h : RowsAt w b ps) (i : Nat) (hi : i < ps.length) : w.there b (i * 64) 64 := fun j hj => by
  have := h.free (i * 64 + j) (by have : (i + 1) * 64 ≤ ps.length * 64 := Nat.mul_le_mul_right _ hi; omega)
  rwa [Nat.zero_add] at this
theorem RowsAt.lt {w : World} {b : Nat} {ps : List (List UInt8)} (h : RowsAt w b ps) (h0 : 0 < ps.length) : b < w.heap.size := by
  have := (h.free 0 (by omega)).1
  cases hc : w.cell? ⟨b, 0 + 0, none⟩ with
  | none => rw [hc] at this; cases this
  | some v => exact World.block_lt_of_cell? w _ hc
theorem RowsAt.put {w : World} {b : Nat} {ps : List (List UInt8)} (h : RowsAt w b ps) (i : Nat) (hi : i < ps.length) (p : List UInt8) (hp : p.length = 64) : RowsAt (w.setCells b (i * 64) (byteVals p)) b (ps.set i p) where
  size := fun q hq => by
    rcases List.mem_or_eq_of_mem_set hq with h1 | h1
    · exact h.size q h1
    · rw [h1]; exact hp
  range := fun j q hq => by
    rw [List.getElem?_set] at hq
    by_cases e : i = j
    · subst e
      rw [if_pos rfl, if_pos hi] at hq
      injection hq with hq
      subst hq
      exact World.rangeAt_setCells_same _ _ _ _ (by rw [byteVals_length, hp]; exact h.thereAt i hi)
    · rw [if_neg e] at hq
      have hql : q.length = 64 := h.size q (List.mem_of_getElem? hq)
      refine World.rangeAt_setCells_apart (h.range j q hq) _ _ _ (Or.inr ?_)
      rw [byteVals_length, byteVals_length, hp, hql]
      rcases Nat.lt_or_gt_of_ne e with g | g
      · have : (i + 1) * 64 ≤ j * 64 := Nat.mul_le_mul_right _ g; omega
      · have : (j + 1) * 64 ≤ i * 64 := Nat.mul_le_mul_right _ g; omega
  free := by rw [List.length_set]; exact World.there_setCells h.free _ _ _
theorem made_zero (N : Nat) : madeCells (Value.agg zeroCells).cells N = (byteVals (List.replicate N 0)).toArray := by
  apply Array.ext'
  have hz : ∀ i, i < 64 → (zeroCells : Array Value)[i]! = .int .u8 0 := fun i hi => by
    have h1 : zeroCells[i]? = some (.int .u8 0) := by
      unfold zeroCells
      rw [List.getElem?_toArray, byteVals_at zeros i (by rw [zeros_length]; exact hi)]
      have h2 : ∀ (j : Nat) (hj : j < zeros.length), zeros[j] = 0 := fun j hj => List.getElem_replicate ..
      rw [h2]; rfl
    rw [getElem!_def, h1]
  have hs : (Value.agg zeroCells).cells = zeroCells := rfl
  have hsz : zeroCells.size = 64 := rfl
  rw [hs]
  unfold madeCells
  rw [hsz, Array.toList_map, Array.toList_range]
  unfold byteVals
  rw [List.map_replicate]
  apply List.ext_getElem
  · simp
  · intro i h1 h2
    simp only [List.getElem_map, List.getElem_range, List.getElem_replicate]
    exact hz _ (Nat.mod_lt _ (by omega))
theorem info_page : (Tryz.prog.info? 97).map (fun i => (i.zero, i.size, i.bytes)) = some (some (.agg zeroCells), 64, 64) := by kernel_rfl
def zeroRow (n : Nat) : Array Value := (byteVals (List.replicate (n * 64) 0)).toArray
theorem run_make_pages (w : World) (n : Nat) (hn : n ≤ 1000) : (Instr.makeSlice 86 (.int .i64 (n : Int)) (.int .i64 (n : Int))).run Tryz.prog w = .ok (.slice (some ⟨w.heap.size, 0, none⟩) n n) (w.alloc (.cells (zeroRow n) 97)) := by
  obtain ⟨i, hi, hz, hs, hb⟩ := info_parts info_page
  have := run_make (P := Tryz.prog) w 86 97 i (.agg zeroCells) Tryz.underlying86 hi hz .i64 .i64 (n : Int) (n : Int) (by omega) (by omega) (by rw [hb]; omega) (by omega)
  rw [hs, Int.toNat_natCast, made_zero] at this
  exact this
theorem rowsAt_new (w : World) (n : Nat) (t : TypeId) : RowsAt (w.alloc (.cells (zeroRow n) t)) w.heap.size (List.replicate n zeros) where
  size := fun p hp => by rw [List.eq_of_mem_replicate hp]; exact zeros_length
  range := fun i p hp => by
    have hi : i < n := by
      have := (List.getElem?_eq_some_iff.1 hp).1
      simpa using this
    have hp' : p = zeros := List.eq_of_mem_replicate (List.mem_of_getElem? hp)
    subst hp'
    intro j v hv
    rw [World.cell?_alloc_mark]
    have hj : j < 64 := by
      have := (List.getElem?_eq_some_iff.1 hv).1
      rw [byteVals_length, zeros_length] at this; exact this
    have hk : i * 64 + j < n * 64 := by have : (i + 1) * 64 ≤ n * 64 := Nat.mul_le_mul_right _ hi; omega
    have hz0 : ∀ (k : Nat) (hk : k < zeros.length), zeros[k] = 0 := fun k hk => List.getElem_replicate ..
    rw [byteVals_at zeros j (by rw [zeros_length]; exact hj), hz0] at hv
    unfold zeroRow
    rw [List.getElem?_toArray, byteVals_at _ _ (by rw [List.length_replicate]; exact hk), List.getElem_replicate]
    exact hv
  free := there_new w _ t _ (by unfold zeroRow; rw [List.size_toArray, byteVals_length]; simp)
open Classical in
noncomputable def pageR (v : Value) : Option (DataW (List UInt8) × List MemPlace) :=
  if h : ∃ p : List UInt8, p.length = 64 ∧ v = pageV p then some (.held h.choose, []) else none
theorem pageV_inj {p q : List UInt8} (h : pageV p = pageV q) : p = q := by
  unfold pageV at h
  injection h with h
  exact byteVals_inj p q (by simpa using congrArg Array.toList h)
theorem pageR_mk {p : List UInt8} (hp : p.length = 64) : pageR (pageV p) = some (.held p, []) := by
  unfold pageR
  have hex : ∃ q : List UInt8, q.length = 64 ∧ pageV p = pageV q := ⟨p, hp, rfl⟩
  rw [dif_pos hex]
  have := pageV_inj hex.choose_spec.2
  rw [← this]
theorem pageR_inv {v : Value} {z : DataW (List UInt8) × List MemPlace} (h : pageR v = some z) : ∃ p : List UInt8, p.length = 64 ∧ v = pageV p ∧ z = (.held p, []) := by
  unfold pageR at h
  split at h
  · rename_i hex
    injection h with h
    exact ⟨_, hex.choose_spec.1, hex.choose_spec.2, h.symm⟩
  · cases h
structure MapIs (D : DataW (List UInt8)) (c : List (Option (List UInt8))) : Prop where
  has : ∀ i : Int, Maps.has D (.int .i64 i) = (decide (0 ≤ i) && (c.getD i.toNat none).isSome)
  held : ∀ (i : Nat) p, c.getD i none = some p → ∀ z, D.atKey (.int .i64 (i : Int)) z = .held p
  size : Maps.size D = c.countP (·.isSome)
def MapAt (w : World) (b : Nat) (c : List (Option (List UInt8))) : Prop := ∃ D, w.ownsMap Tryz.prog 3 pageR b (Maps.size D) D ∧ MapIs D c
theorem keyLaw : Keyed Tryz.prog 3 := int_keyed Tryz.underlying3
theorem zeroPage (w : World) : (zeroValue 97).run Tryz.prog w = .ok (pageV zeros) w := by kernel_rfl
theorem wf_i64 {i : Int} (h1 : -9223372036854775808 ≤ i) (h2 : i ≤ 9223372036854775807) : (Lit.int .i64 i).wf = true := WalkArith.wf_i64 (by omega)
theorem MapAt.block {w w' : World} {b : Nat} {c : List (Option (List UInt8))} (h : MapAt w b c) (hb : w'.heap[b]? = w.heap[b]?) : MapAt w' b c := by
  obtain ⟨D, ⟨es, clock, h1, h2⟩, h3⟩ := h
  exact ⟨D, ⟨es, clock, hb.trans h1, h2⟩, h3⟩
theorem MapAt.lt {w : World} {b : Nat} {c : List (Option (List UInt8))} (h : MapAt w b c) : b < w.heap.size := by
  obtain ⟨D, h1, _⟩ := h
  exact h1.lt
theorem tight {w : World} {b n : Nat} {D : DataW (List UInt8)} (h : w.ownsMap Tryz.prog 3 pageR b n D) : w.ownsMap Tryz.prog 3 pageR b (Maps.size D) D := by
  obtain ⟨es, clock, hb, F, hs, rfl⟩ := h
  exact ⟨es, clock, hb, F, by simp [Maps.size, length_sorted], rfl⟩
theorem mapAt_made (w : World) (n : Nat) : MapAt (w.alloc (.map #[] 0)) w.heap.size (List.replicate n none) := by
  refine ⟨.map [], World.ownsMap_made _ _ _ _, ?_, ?_, ?_⟩
  · intro i
    rw [has_eq]
    simp [List.getElem?_replicate]
    split <;> simp
  · intro i p hp
    rw [List.getD_eq_getElem?_getD, List.getElem?_replicate] at hp
    split at hp <;> cases hp
  · simp [Maps.size, List.countP_replicate]
theorem MapAt.value {D : DataW (List UInt8)} {c : List (Option (List UInt8))} (h3 : MapIs D c) (i : Nat) {v : Value} {ps : List MemPlace} (hv : pageR v = some (D.atKey (.int .i64 (i : Int)) (.held zeros), ps)) : v = pageV ((c.getD i none).getD zeros) := by
  obtain ⟨p, _, rfl, e⟩ := pageR_inv hv
  injection e with e _
  cases hc : c.getD i none with
  | none =>
    have hh : Maps.has D (.int .i64 (i : Int)) = false := by rw [h3.has, Int.toNat_natCast, hc]; simp
    rw [atKey_of_not_has hh] at e
    injection e with e
    rw [← e]; rfl
  | some q =>
    rw [h3.held i q hc] at e
    injection e with e
    rw [← e]; rfl
theorem MapAt.look {w : World} {b : Nat} {c : List (Option (List UInt8))} (h : MapAt w b c) (i : Nat) (hi : i ≤ 1000) :
    (Instr.lookup 91 (.map (some b)) (.int .i64 (i : Int)) true).run Tryz.prog w = .ok (.tuple #[pageV ((c.getD i none).getD zeros), .bool (c.getD i none).isSome]) w := by
  obtain ⟨D, h1, h3⟩ := h
  obtain ⟨v, ps, hrun, hv⟩ := h1.look_ok (t := 91) (e := 97) keyLaw Tryz.underlying91 (zeroPage w) (pageR_mk zeros_length) (key := .int .i64 (i : Int)) (keyOf_int_mk Tryz.underlying3 (wf_i64 (by omega) (by omega)))
  rw [hrun, MapAt.value h3 i hv, h3.has, Int.toNat_natCast]
  simp
theorem MapAt.look1 {w : World} {b : Nat} {c : List (Option (List UInt8))} (h : MapAt w b c) (i : Nat) (hi : i ≤ 1000) :
    (Instr.lookup 91 (.map (some b)) (.int .i64 (i : Int)) false).run Tryz.prog w = .ok (pageV ((c.getD i none).getD zeros)) w := by
  obtain ⟨D, h1, h3⟩ := h
  obtain ⟨v, ps, hrun, hv⟩ := h1.lookup (t := 91) (e := 97) keyLaw Tryz.underlying91 (zeroPage w) (pageR_mk zeros_length) (key := .int .i64 (i : Int)) (keyOf_int_mk Tryz.underlying3 (wf_i64 (by omega) (by omega)))
  rw [hrun, MapAt.value h3 i hv]
theorem MapAt.len {w : World} {b : Nat} {c : List (Option (List UInt8))} (h : MapAt w b c) (ty : TypeId) : (Builtin.len_ #[91] ty #[.map (some b)]).run Tryz.prog w = .ok (.int .i64 (c.countP (·.isSome) : Nat)) w := by
  obtain ⟨D, h1, h3⟩ := h
  rw [h1.len Tryz.underlying91, h3.size]
theorem count_set (c : List (Option (List UInt8))) : ∀ (i : Nat) (p : List UInt8), i < c.length → (c.set i (some p)).countP (·.isSome) = if (c.getD i none).isSome then c.countP (·.isSome) else c.countP (·.isSome) + 1 := by
  induction c with
  | nil => intro i p hi; simp at hi
  | cons a c ih =>
    intro i p hi
    cases i with
    | zero =>
      cases a <;> simp
    | succ i =>
      rw [List.set_cons_succ, List.countP_cons, List.countP_cons, ih i p (by simpa using hi)]
      simp only [List.getD_cons_succ]
      split <;> omega
theorem MapAt.store {w : World} {b : Nat} {c : List (Option (List UInt8))} (h : MapAt w b c) (i : Nat) (hi : i < c.length) (hc : c.length ≤ 1000) {p : List UInt8} (hp : p.length = 64) :
    ∃ w', (Instr.mapUpdate 91 (.map (some b)) (.int .i64 (i : Int)) (pageV p)).run Tryz.prog w = .ok () w' ∧ MapAt w' b (c.set i (some p)) ∧ w.mapTurned w' b := by
  obtain ⟨D, h1, h3⟩ := h
  have hsz : Maps.size D ≤ c.length := by rw [h3.size]; exact List.countP_le_length
  obtain ⟨w', hrun, hown, hturn⟩ := h1.store (t := 91) (e := 97) keyLaw Tryz.underlying91 (by unfold maxLen; omega) (key := .int .i64 (i : Int)) (val := pageV p) (keyOf_int_mk Tryz.underlying3 (wf_i64 (by omega) (by omega))) (pageR_mk hp)
  refine ⟨w', hrun, ⟨_, tight hown, ?_, ?_, ?_⟩, hturn⟩
  · intro j
    by_cases e : j = (i : Int)
    · subst e
      rw [has_put_same (k := .int .i64 (i : Int)) h1.isMap trivial, Int.toNat_natCast, List.getD_eq_getElem?_getD, List.getElem?_set_self hi]
      simp
    · rw [has_put_other (fun q => e (by injection q)), h3.has]
      by_cases hj : 0 ≤ j
      · have : i ≠ j.toNat := by omega
        rw [List.getD_eq_getElem?_getD, List.getD_eq_getElem?_getD, List.getElem?_set_ne this]
      · simp [hj]
  · intro j q hq z
    by_cases e : i = j
    · subst e
      rw [List.getD_eq_getElem?_getD, List.getElem?_set_self hi] at hq
      have hq' : p = q := by simpa using hq
      rw [atKey_put_same (k := .int .i64 (i : Int)) h1.isMap trivial, hq']
    · rw [List.getD_eq_getElem?_getD, List.getElem?_set_ne e, ← List.getD_eq_getElem?_getD] at hq
      rw [atKey_put_other (fun k => e (Int.ofNat_inj.1 (Lit.int.inj k).2.symm))]
      exact h3.held j q hq z
  · rw [size_put (h1.tidy keyLaw), h3.has, Int.toNat_natCast, count_set c i p hi, h3.size]
    simp
theorem MapAt.clear {w : World} {b : Nat} {c : List (Option (List UInt8))} (h : MapAt w b c) (n : Nat) (ty : TypeId) :
    ∃ w', (Builtin.clear_ #[91] ty #[.map (some b)]).run Tryz.prog w = .ok (.tuple #[]) w' ∧ MapAt w' b (List.replicate n none) ∧ w.mapTurned w' b := by
  obtain ⟨D, ⟨es, clock, hb, F, hs, hD⟩, h3⟩ := h
  have hrun : (Builtin.clear_ #[91] ty #[.map (some b)]).run Tryz.prog w = .ok (.tuple #[]) (setBlock w b (.map #[] clock)) := by
    simp [Builtin.clear_, run_underlying Tryz.underlying91, MapKept.run_getObj_map hb, MapKept.run_setObj_map _ hb, Result.andThen]
    rfl
  refine ⟨_, hrun, ?_, ⟨es, clock, #[], clock, hb, rfl⟩⟩
  obtain ⟨D0, _, h0⟩ := mapAt_made w n
  refine ⟨.map [], ⟨#[], clock, heap_setBlock_same hb _, ⟨by unfold maxLen; simp, (stamped_iff _ _).2 ⟨by simp, by simp, by simp⟩, by simp⟩, by simp, rfl⟩, ?_⟩
  refine ⟨?_, ?_, ?_⟩
  · intro i
    rw [has_eq]
    simp [List.getElem?_replicate]
    split <;> simp
  · intro i p hp
    rw [List.getD_eq_getElem?_getD, List.getElem?_replicate] at hp
    split at hp <;> cases hp
  · simp [Maps.size, List.countP_replicate]
structure DiskAt (w : World) (d l m : Nat) (s : Dk.St) : Prop where
  ok : s.Ok
  dl : d ≠ l
  dm : d ≠ m
  lm : l ≠ m
  c0 : w.cell? ⟨d, 0, none⟩ = some (.bool s.lim)
  c1 : w.cell? ⟨d, 1, none⟩ = some (.int .i64 s.left)
  c2 : w.cell? ⟨d, 2, none⟩ = some (.bool s.down)
  c3 : w.cell? ⟨d, 3, none⟩ = some (.slice (some ⟨l, 0, none⟩) s.last.length s.last.length)
  c4 : w.cell? ⟨d, 4, none⟩ = some (.map (some m))
  f0 : w.frozen? ⟨d, 0, none⟩ = false
  f1 : w.frozen? ⟨d, 1, none⟩ = false
  f2 : w.frozen? ⟨d, 2, none⟩ = false
  rows : RowsAt w l s.last
  map : MapAt w m s.cache
theorem DiskAt.blocks {w w' : World} {d l m : Nat} {s : Dk.St} (h : DiskAt w d l m s) (hd : w'.heap[d]? = w.heap[d]?) (hl : w'.heap[l]? = w.heap[l]?) (hm : w'.heap[m]? = w.heap[m]?) : DiskAt w' d l m s where
  ok := h.ok
  dl := h.dl
  dm := h.dm
  lm := h.lm
  c0 := (World.cell?_of_block (w := w) (a := ⟨d, 0, none⟩) hd).trans h.c0
  c1 := (World.cell?_of_block (w := w) (a := ⟨d, 1, none⟩) hd).trans h.c1
  c2 := (World.cell?_of_block (w := w) (a := ⟨d, 2, none⟩) hd).trans h.c2
  c3 := (World.cell?_of_block (w := w) (a := ⟨d, 3, none⟩) hd).trans h.c3
  c4 := (World.cell?_of_block (w := w) (a := ⟨d, 4, none⟩) hd).trans h.c4
  f0 := (World.frozen?_of_block (w := w) (a := ⟨d, 0, none⟩) hd).trans h.f0
  f1 := (World.frozen?_of_block (w := w) (a := ⟨d, 1, none⟩) hd).trans h.f1
  f2 := (World.frozen?_of_block (w := w) (a := ⟨d, 2, none⟩) hd).trans h.f2
  rows := h.rows.block hl
  map := h.map.block hm
theorem DiskAt.dlt {w : World} {d l m : Nat} {s : Dk.St} (h : DiskAt w d l m s) : d < w.heap.size := World.block_lt_of_cell? w _ h.c0
theorem DiskAt.llt {w : World} {d l m : Nat} {s : Dk.St} (h : DiskAt w d l m s) : l < w.heap.size := h.rows.lt h.ok.pos
theorem DiskAt.mlt {w : World} {d l m : Nat} {s : Dk.St} (h : DiskAt w d l m s) : m < w.heap.size := h.map.lt
theorem DiskAt.only {w w' : World} {d l m : Nat} {s : Dk.St} {L : List Nat} (h : DiskAt w d l m s) (ho : Only L w w') (hd : d ∉ L) (hl : l ∉ L) (hm : m ∉ L) : DiskAt w' d l m s :=
  h.blocks (ho.block d h.dlt hd) (ho.block l h.llt hl) (ho.block m h.mlt hm)
theorem DiskAt.below {w w' : World} {d l m : Nat} {s : Dk.St} (h : DiskAt w d l m s) (hb : Below w.heap.size w w') : DiskAt w' d l m s :=
  h.only (L := []) (Only.below hb) (by simp) (by simp) (by simp)
theorem DiskAt.alloc {w : World} {d l m : Nat} {s : Dk.St} (h : DiskAt w d l m s) (o : Obj) : DiskAt (w.alloc o) d l m s := h.below ((Below.refl _ _).alloc (Nat.le_refl _) _)
theorem DiskAt.drew {w : World} {d l m : Nat} {s : Dk.St} (h : DiskAt w d l m s) : DiskAt w.drew d l m s := h.blocks rfl rfl rfl
theorem DiskAt.drewN {w : World} {d l m : Nat} {s : Dk.St} (h : DiskAt w d l m s) (n : Nat) : DiskAt (w.drewN n) d l m s := h.blocks rfl rfl rfl
theorem DiskAt.setDown {w : World} {d l m : Nat} {s : Dk.St} (h : DiskAt w d l m s) (b : Bool) : DiskAt (w.setCell ⟨d, 2, none⟩ (.bool b)) d l m { s with down := b } where
  ok := ⟨h.ok.same, h.ok.pos, h.ok.small, h.ok.pages, h.ok.cpages, h.ok.lo, h.ok.hi, h.ok.live⟩
  dl := h.dl
  dm := h.dm
  lm := h.lm
  c0 := by rw [World.cell?_setCell_other _ _ _ _ (fun q => by injection q with _ q; omega)]; exact h.c0
  c1 := by rw [World.cell?_setCell_other _ _ _ _ (fun q => by injection q with _ q; omega)]; exact h.c1
  c2 := World.cell?_setCell_same' _ _ _ (by rw [h.c2]; rfl)
  c3 := by rw [World.cell?_setCell_other _ _ _ _ (fun q => by injection q with _ q; omega)]; exact h.c3
  c4 := by rw [World.cell?_setCell_other _ _ _ _ (fun q => by injection q with _ q; omega)]; exact h.c4
  f0 := by rw [World.frozen?_setCell]; exact h.f0
  f1 := by rw [World.frozen?_setCell]; exact h.f1
  f2 := by rw [World.frozen?_setCell]; exact h.f2
  rows := h.rows.block (Below.heap_setCell _ _ _ _ (Ne.symm h.dl))
  map := h.map.block (Below.heap_setCell _ _ _ _ (Ne.symm h.dm))
theorem DiskAt.setLeft {w : World} {d l m : Nat} {s : Dk.St} (h : DiskAt w d l m s) (x : Int) (hok : Dk.St.Ok { s with left := x }) : DiskAt (w.setCell ⟨d, 1, none⟩ (.int .i64 x)) d l m { s with left := x } where
  ok := hok
  dl := h.dl
  dm := h.dm
  lm := h.lm
  c0 := by rw [World.cell?_setCell_other _ _ _ _ (fun q => by injection q with _ q; omega)]; exact h.c0
  c1 := World.cell?_setCell_same' _ _ _ (by rw [h.c1]; rfl)
  c2 := by rw [World.cell?_setCell_other _ _ _ _ (fun q => by injection q with _ q; omega)]; exact h.c2
  c3 := by rw [World.cell?_setCell_other _ _ _ _ (fun q => by injection q with _ q; omega)]; exact h.c3
  c4 := by rw [World.cell?_setCell_other _ _ _ _ (fun q => by injection q with _ q; omega)]; exact h.c4
  f0 := by rw [World.frozen?_setCell]; exact h.f0
  f1 := by rw [World.frozen?_setCell]; exact h.f1
  f2 := by rw [World.frozen?_setCell]; exact h.f2
  rows := h.rows.block (Below.heap_setCell _ _ _ _ (Ne.symm h.dl))
  map := h.map.block (Below.heap_setCell _ _ _ _ (Ne.symm h.dm))
theorem DiskAt.setMap {w w' : World} {d l m : Nat} {s : Dk.St} (h : DiskAt w d l m s) (hg : w.grownBy w' (some m)) {c : List (Option (List UInt8))} (hm : MapAt w' m c) (hok : Dk.St.Ok { s with cache := c }) : DiskAt w' d l m { s with cache := c } := by
  have hd := hg.block d h.dlt (fun e => h.dm (by injection e))
  have hl := hg.block l h.llt (fun e => h.lm (by injection e))
  exact { ok := hok, dl := h.dl, dm := h.dm, lm := h.lm
          c0 := (World.cell?_of_block (w := w) (a := ⟨d, 0, none⟩) hd).trans h.c0
          c1 := (World.cell?_of_block (w := w) (a := ⟨d, 1, none⟩) hd).trans h.c1
          c2 := (World.cell?_of_block (w := w) (a := ⟨d, 2, none⟩) hd).trans h.c2
          c3 := (World.cell?_of_block (w := w) (a := ⟨d, 3, none⟩) hd).trans h.c3
          c4 := (World.cell?_of_block (w := w) (a := ⟨d, 4, none⟩) hd).trans h.c4
          f0 := (World.frozen?_of_block (w := w) (a := ⟨d, 0, none⟩) hd).trans h.f0
          f1 := (World.frozen?_of_block (w := w) (a := ⟨d, 1, none⟩) hd).trans h.f1
          f2 := (World.frozen?_of_block (w := w) (a := ⟨d, 2, none⟩) hd).trans h.f2
          rows := h.rows.block hl, map := hm }
end

section
open Go.RowKit
open Dk (zeros zeros_length)
theorem pages_any {w : World} {d l m : Nat} {s : Dk.St} (h : DiskAt w d l m s) : Calls Tryz.prog 53 #[.pointer (some ⟨d, 0, none⟩)] w fun e w' => e = .returned (.int .i64 (s.last.length : Int)) ∧ w = w' := by
  have c3 := h.c3
  clear h
  go_enter Tryz.func53, Tryz.ntmps53
  go_wp2
  go_ret
  exact ⟨rfl, rfl⟩
theorem down_any {w : World} {d l m : Nat} {s : Dk.St} (h : DiskAt w d l m s) : Calls Tryz.prog 52 #[.pointer (some ⟨d, 0, none⟩)] w fun e w' => e = .returned (.bool s.down) ∧ w = w' := by
  have c2 := h.c2
  clear h
  go_enter Tryz.func52, Tryz.ntmps52
  go_wp2
  go_ret
  exact ⟨rfl, rfl⟩
theorem hasd_any {w : World} {d l m : Nat} {s : Dk.St} (h : DiskAt w d l m s) (i : Int) : Calls Tryz.prog 165 #[.pointer (some ⟨d, 0, none⟩), .int .i64 i] w fun e w' => e = .returned (.bool (Dk.hasB s.last.length i)) ∧ w = w' := by
  have HP := Lib.hid (pages_any h)
  clear h
  generalize s.last.length = n at HP ⊢
  by_cases h0 : 0 ≤ i
  · go_enter Tryz.func165, Tryz.ntmps165
    go_wp2_with (go_at_call 53; refine HP.out.mono ?_; rintro e w' ⟨rfl, rfl⟩)
    go_ret
    exact ⟨ret_bool (by unfold Dk.hasB; rw [decide_eq_decide]; omega), rfl⟩
  · go_enter Tryz.func165, Tryz.ntmps165
    go_wp2
    go_ret
    exact ⟨ret_bool (by unfold Dk.hasB; symm; rw [decide_eq_false_iff_not]; omega), rfl⟩
theorem reach_any {w : World} {d l m : Nat} {s : Dk.St} (h : DiskAt w d l m s) (i : Int) : Calls Tryz.prog 140 #[.pointer (some ⟨d, 0, none⟩), .int .i64 i] w fun e w' => e = .returned (.int .i64 (Dk.reachE s i)) ∧ w = w' := by
  have HD := Lib.hid (down_any h)
  have HH := Lib.hid (hasd_any h i)
  clear h
  unfold Dk.reachE
  generalize s.down = b at HD ⊢
  generalize Dk.hasB s.last.length i = c at HH ⊢
  cases b
  · cases c
    · go_enter Tryz.func140, Tryz.ntmps140
      go_wp2_with (first
        | (go_at_call 52; refine HD.out.mono ?_; rintro e w' ⟨rfl, rfl⟩)
        | (go_at_call 165; refine HH.out.mono ?_; rintro e w' ⟨rfl, rfl⟩))
      go_ret
      exact ⟨rfl, rfl⟩
    · go_enter Tryz.func140, Tryz.ntmps140
      go_wp2_with (first
        | (go_at_call 52; refine HD.out.mono ?_; rintro e w' ⟨rfl, rfl⟩)
        | (go_at_call 165; refine HH.out.mono ?_; rintro e w' ⟨rfl, rfl⟩))
      go_ret
      exact ⟨rfl, rfl⟩
  · go_enter Tryz.func140, Tryz.ntmps140
    go_wp2_with (first
      | (go_at_call 52; refine HD.out.mono ?_; rintro e w' ⟨rfl, rfl⟩))
    go_ret
    exact ⟨rfl, rfl⟩
theorem spend_any {w : World} {d l m : Nat} {s : Dk.St} (h : DiskAt w d l m s) : Calls Tryz.prog 141 #[.pointer (some ⟨d, 0, none⟩)] w fun e w' =>
    e = .returned (.int .i64 (Dk.spendE s)) ∧ DiskAt w' d l m (Dk.spend s) ∧ Only [d] w w' ∧ w'.heap.size = w.heap.size := by
  have c0 := h.c0
  have c1 := h.c1
  have f1 := h.f1
  have f2 := h.f2
  have c2 := h.c2
  have HL := Lib.hid h.ok.lo
  have HI := Lib.hid h.ok.hi
  by_cases hl : s.lim = true
  · have h0 := h.ok.live hl
    rw [hl] at c0
    by_cases hz : s.left = 0
    · have HE : Hid (Dk.spendE s = 5) := Lib.hid (by unfold Dk.spendE; rw [if_pos ⟨hl, hz⟩])
      have HS : Hid (Dk.spend s = { s with down := true }) := Lib.hid (by unfold Dk.spend; rw [if_pos hl, if_pos hz])
      rw [hz] at c1
      have HD := Lib.hid h
      clear h hl hz h0
      go_enter Tryz.func141, Tryz.ntmps141
      go_wp2
      go_ret
      exact ⟨ret_int HE.out.symm, by rw [HS.out]; exact HD.out.setDown true, (Only.refl _ _).setCell (by simp) _, by simp⟩
    · have HE : Hid (Dk.spendE s = 0) := Lib.hid (by unfold Dk.spendE; rw [if_neg (fun e => hz e.2)])
      have HS : Hid (Dk.spend s = { s with left := s.left - 1 }) := Lib.hid (by unfold Dk.spend; rw [if_pos hl, if_neg hz])
      have hb : (s.left == 0) = false := by simpa using hz
      have HD := Lib.hid h
      have HK : Hid (Dk.St.Ok { s with left := s.left - 1 }) := Lib.hid (HS.out ▸ Dk.spend_ok h.ok)
      have h1 := h.ok.hi
      clear h hl hz
      go_enter Tryz.func141, Tryz.ntmps141
      go_wp2
      go_ret
      exact ⟨ret_int HE.out.symm, by rw [HS.out]; exact HD.out.setLeft _ HK.out, (Only.refl _ _).setCell (by simp) _, by simp⟩
  · have HE : Hid (Dk.spendE s = 0) := Lib.hid (by unfold Dk.spendE; rw [if_neg (fun e => hl e.1)])
    have HS : Hid (Dk.spend s = s) := Lib.hid (by unfold Dk.spend; rw [if_neg hl])
    have hb : s.lim = false := by simpa using hl
    rw [hb] at c0
    have HD := Lib.hid h
    clear h hl hb
    go_enter Tryz.func141, Tryz.ntmps141
    go_wp2
    go_ret
    exact ⟨ret_int HE.out.symm, by rw [HS.out]; exact HD.out, Only.refl _ _, rfl⟩
end

section
open Go.RowKit
open Dk (zeros zeros_length)
theorem wpList_load_row {ops : Array Oper} {rest : List Oper} {op : Oper} {a : Act} {Q : Exit → Act → World → Prop} {w : World} {b : Nat} {ps : List (List UInt8)} (h : RowsAt w b ps) (i : Nat) {p : List UInt8} (hi : ps[i]? = some p) (hgd : op.guard = none) (x : Operand) (ho : op.op = .load 97 x)
    (hx : a.eval x = .pointer (some ⟨b, i * 64, none⟩)) (hK : wpList Tryz.prog ops Q rest (a.put op.dst (pageV p)) w) : wpList Tryz.prog ops Q (op :: rest) a w :=
  wpList_load_mid hgd 97 x ho b (i * 64) hx (byteVals p) _ (h.range i p hi) Tryz.underlying97 rfl (by rw [page_info, byteVals_length, h.size p (List.mem_of_getElem? hi)]) hK
theorem wpList_store_row {ops : Array Oper} {rest : List Oper} {op : Oper} {a : Act} {Q : Exit → Act → World → Prop} {w : World} {b : Nat} {ps : List (List UInt8)} (h : RowsAt w b ps) (i : Nat) (hi : i < ps.length) {p : List UInt8} (hp : p.length = 64) (hgd : op.guard = none) (x y : Operand) (ho : op.op = .store 97 x y)
    (hx : a.eval x = .pointer (some ⟨b, i * 64, none⟩)) (hy : a.eval y = pageV p) (hK : wpList Tryz.prog ops Q rest (a.put op.dst undef) (w.setCells b (i * 64) (byteVals p))) : wpList Tryz.prog ops Q (op :: rest) a w :=
  wpList_store_mid hgd 97 x y ho b (i * 64) (byteVals p).toArray hx hy (by rw [List.size_toArray, byteVals_length, hp]; exact h.thereAt i hi) (by rw [page_info, List.size_toArray, byteVals_length, hp]) (all_oneCell_toArray (byteVals_one p)) (by simpa using hK)
theorem PageAt.block {w w' : World} {b : Nat} {p : List UInt8} (h : PageAt w b p) (hb : w'.heap[b]? = w.heap[b]?) : PageAt w' b p := ⟨h.len, rangeAt_block h.range hb, there_block h.free hb⟩
theorem results_page_int (fn : Func) (s t : Nat) (hf : fn.results = #[.cell s 97, .tmp t]) {w : World} {b : Nat} {q : List UInt8} (tmps : Array Value) (h : PageAt w b q) (ht : tmps.getD s undef = .pointer (some ⟨b, 0, none⟩)) :
    (results fn tmps).run Tryz.prog w = .ok (.tuple #[pageV q, tmps.getD t undef]) w := by
  have hl := run_loadVar_mid (P := Tryz.prog) w b 0 97 (byteVals q) _ h.range Tryz.underlying97 rfl (by rw [page_info, byteVals_length, h.len])
  unfold results
  rw [hf]
  simp only [Array.mapM_eq_mapM_toList, List.mapM_cons, List.mapM_nil, ht, asAddr, Sem.run_bind, Sem.run_pure, Result.andThen_ok, hl, Sem.run_map]
  rfl
def newWorld (w : World) (n : Nat) : World := ((w.alloc (.cells (zeroRow n) 97)).alloc (.map #[] 0)).alloc (.cells #[.bool false, .int .i64 0, .bool false, .slice (some ⟨w.heap.size, 0, none⟩) n n, .map (some (w.heap.size + 1))] 95)
theorem newWorld_size (w : World) (n : Nat) : (newWorld w n).heap.size = w.heap.size + 3 := by unfold newWorld; simp
theorem newWorld_below (w : World) (n : Nat) : Below w.heap.size w (newWorld w n) :=
  (((Below.refl _ _).alloc (Nat.le_refl _) _).alloc (by simp) _).alloc (by simp; omega) _
theorem newWorld_disk (w : World) (n : Nat) (h1 : 1 ≤ n) (h2 : n ≤ 512) : DiskAt (newWorld w n) (w.heap.size + 2) w.heap.size (w.heap.size + 1) (Dk.fresh n) := by
  have hl : (Dk.fresh n).last.length = n := by unfold Dk.fresh; simp
  have hs : ((w.alloc (.cells (zeroRow n) 97)).alloc (.map #[] 0)).heap.size = w.heap.size + 2 := by simp
  have hr : RowsAt (newWorld w n) w.heap.size (List.replicate n zeros) := by
    refine (rowsAt_new w n 97).block ?_
    unfold newWorld
    rw [Below.heap_alloc _ _ _ (by simp; omega), Below.heap_alloc _ _ _ (by simp)]
  have hm : MapAt (newWorld w n) (w.heap.size + 1) (List.replicate n none) := by
    have := mapAt_made (w.alloc (.cells (zeroRow n) 97)) n
    have e : (w.alloc (.cells (zeroRow n) 97)).heap.size = w.heap.size + 1 := by simp
    rw [e] at this
    refine this.block ?_
    unfold newWorld
    rw [Below.heap_alloc _ _ _ (by simp)]
  exact { ok := Dk.fresh_ok h1 h2, dl := by omega, dm := by omega, lm := by omega
          c0 := by unfold newWorld; simp [go_sem]; rfl
          c1 := by unfold newWorld; simp [go_sem]; rfl
          c2 := by unfold newWorld; simp [go_sem]; rfl
          c3 := by unfold newWorld; rw [hl]; simp [go_sem]
          c4 := by unfold newWorld; simp [go_sem]
          f0 := by unfold newWorld; simp [go_sem]
          f1 := by unfold newWorld; simp [go_sem]
          f2 := by unfold newWorld; simp [go_sem]
          rows := hr, map := hm }
theorem new_any (n : Nat) (w : World) (h1 : 1 ≤ n) (h2 : n ≤ 512) : Calls Tryz.prog 21 #[.int .i64 (n : Int)] w fun e w' => e = .returned (.tuple #[.pointer (some ⟨w.heap.size + 2, 0, none⟩), .int .i64 0]) ∧ w' = newWorld w n := by
  have hmk := run_make_pages w n (by omega)
  have hmm := @run_makeMap Tryz.prog
  have k1 : ¬ (n : Int) < 1 := by omega
  have k2 : ¬ (512 : Int) < (n : Int) := by omega
  go_enter Tryz.func21, Tryz.ntmps21
  go_wp2
  go_ret2
  exact ⟨rfl, rfl⟩
end

section
open Go.RowKit
open Dk (zeros zeros_length)
theorem read_start (w : World) {d l m : Nat} {s : Dk.St} (h : DiskAt w d l m s) : PageAt (w.alloc (.cells zeroCells 97)) w.heap.size zeros ∧ Below w.heap.size w (w.alloc (.cells zeroCells 97)) ∧ DiskAt (w.alloc (.cells zeroCells 97)) d l m s ∧ w.heap.size < (w.alloc (.cells zeroCells 97)).heap.size :=
  ⟨pageAt_zeros w 97, (Below.refl _ _).alloc (Nat.le_refl _) _, h.alloc _, by simp⟩
theorem read_any {w : World} {d l m : Nat} {s : Dk.St} (h : DiskAt w d l m s) (i : Int) : Calls Tryz.prog 100 #[.pointer (some ⟨d, 0, none⟩), .int .i64 i] w fun e w' => e = .returned (.tuple #[pageV (Dk.readP s i), .int .i64 (Dk.reachE s i)]) ∧ Below w.heap.size w w' := by
  have HS := Lib.hid (read_start w h)
  have HR := Lib.hid (reach_any HS.out.2.2.1 i)
  rw [zeroCells_def] at HR
  by_cases c : Dk.reachE s i = 0
  · obtain ⟨a0, a1⟩ := Dk.has_yes (Dk.reach_zero c).2
    obtain ⟨k, rfl⟩ := Int.eq_ofNat_of_zero_le a0
    have HP : Hid (Dk.readP s (k : Int) = Dk.nowAt s k) := Lib.hid (by unfold Dk.readP; rw [if_pos c, Int.toNat_natCast])
    rw [c] at HR
    have hk : k < s.last.length := by omega
    have hk2 : k ≤ 1000 := by have := h.ok.small; omega
    have HN := Lib.hid (Dk.nowAt_len h.ok hk)
    rw [c, HP.out]
    clear HP
    have HLK := Lib.hid (fun (W : World) (hW : DiskAt W d l m s) => hW.map.look k hk2)
    clear c h a0 a1
    cases hc : Dk.cacheAt s k with
    | some p =>
      have HC : Hid (s.cache.getD k none = some p) := Lib.hid hc
      have HNP : Hid (Dk.nowAt s k = p) := Lib.hid (by unfold Dk.nowAt; rw [hc]; rfl)
      rw [HNP.out] at HN ⊢
      clear HNP hc
      go_enter Tryz.func100, Tryz.ntmps100
      go_wp2_with fail
      refine HR.out.mono ?_
      rintro e w' ⟨rfl, rfl⟩
      rw [← zeroCells_def]
      clear HR
      generalize w.alloc (.cells zeroCells 97) = w1 at HS ⊢
      have c4 := HS.out.2.2.1.c4
      have hlook := HLK.out w1 HS.out.2.2.1
      rw [HC.out] at hlook
      simp only [Option.getD_some, Option.isSome_some] at hlook
      go_wp2_with (first
        | ((with_reducible refine wpList_store_new rfl (.tmp 7) (.tmp 23) rfl rfl ?_ ?_ HN.out ?_); (exact rfl); (exact rfl); intro W2 hP hB2 hz2; clear hlook; have HZ2 := Lib.hid (HS.out.1.below hB2 HS.out.2.2.2))
        | (with_reducible refine wpList_load_page hP rfl (.tmp 7) rfl rfl ?_)
        | (with_reducible refine wpList_store_page HZ2.out HN.out rfl (.tmp 4) (.tmp 26) rfl rfl rfl ?_))
      exact bodyPost_ret (results_page_int _ 4 5 rfl _ (HZ2.out.put _ HN.out) rfl) rfl ⟨rfl, below_setCells _ (Nat.le_refl _) _ _ _ (HS.out.2.1.trans (hB2.mono HS.out.2.1.size))⟩
    | none =>
      have HC : Hid (s.cache.getD k none = none) := Lib.hid hc
      obtain ⟨p, hp⟩ : ∃ p, s.last[k]? = some p := ⟨_, List.getElem?_eq_getElem hk⟩
      have HNP : Hid (Dk.nowAt s k = p) := Lib.hid (by unfold Dk.nowAt Dk.lastAt; rw [hc, List.getD_eq_getElem?_getD, hp]; rfl)
      rw [HNP.out] at HN ⊢
      have HI := Lib.hid hp
      clear HNP hc hp
      go_enter Tryz.func100, Tryz.ntmps100
      go_wp2_with fail
      refine HR.out.mono ?_
      rintro e w' ⟨rfl, rfl⟩
      rw [← zeroCells_def]
      clear HR
      generalize w.alloc (.cells zeroCells 97) = w1 at HS ⊢
      have c4 := HS.out.2.2.1.c4
      have hlook := HLK.out w1 HS.out.2.2.1
      rw [HC.out] at hlook
      simp only [Option.getD_none, Option.isSome_none] at hlook
      go_wp2_with (first
        | ((with_reducible refine wpList_store_new rfl (.tmp 7) (.tmp 23) rfl rfl ?_ ?_ zeros_length ?_); (exact rfl); (exact rfl); intro W2 hP hB2 hz2; clear hlook; have HZ2 := Lib.hid (HS.out.1.below hB2 HS.out.2.2.2); have HD2 := Lib.hid (HS.out.2.2.1.below hB2); have c3 := HD2.out.c3)
        | (with_reducible refine wpList_load_row HD2.out.rows k HI.out rfl (.tmp 32) rfl rfl ?_)
        | (with_reducible refine wpList_store_page HZ2.out HN.out rfl (.tmp 4) (.tmp 33) rfl rfl rfl ?_))
      exact bodyPost_ret (results_page_int _ 4 5 rfl _ (HZ2.out.put _ HN.out) rfl) rfl ⟨rfl, below_setCells _ (Nat.le_refl _) _ _ _ (HS.out.2.1.trans (hB2.mono HS.out.2.1.size))⟩
  · have HP : Hid (Dk.readP s i = zeros) := Lib.hid (by unfold Dk.readP; rw [if_neg c])
    rw [HP.out]
    have hne : (Dk.reachE s i == 0) = false := by simpa using c
    have hne2 : (Dk.reachE s i != 0) = true := by simpa using c
    generalize Dk.reachE s i = E at HR hne hne2 ⊢
    clear c h HP
    go_enter Tryz.func100, Tryz.ntmps100
    go_wp2_with fail
    refine HR.out.mono ?_
    rintro e w' ⟨rfl, rfl⟩
    rw [← zeroCells_def]
    clear HR
    generalize w.alloc (.cells zeroCells 97) = w1 at HS ⊢
    go_wp2_with ((with_reducible refine wpList_store_page HS.out.1 zeros_length rfl (.tmp 4) (.tmp 14) rfl rfl ?_ ?_); (exact rfl))
    exact bodyPost_ret (results_page_int _ 4 5 rfl _ (HS.out.1.put _ zeros_length) rfl) rfl ⟨rfl, below_setCells _ (Nat.le_refl _) _ _ _ HS.out.2.1⟩
theorem wpStill_load_page {ops : Array Oper} {rest : List Oper} {op : Oper} {a : Act} {Q : Act → Prop} {w : World} {b : Nat} {p : List UInt8} (hp : PageAt w b p) (hgd : op.guard = none) (x : Operand) (ho : op.op = .load 97 x)
    (hx : a.eval x = .pointer (some ⟨b, 0, none⟩)) (h : wpStill Tryz.prog ops w Q rest (a.put op.dst (pageV p))) : wpStill Tryz.prog ops w Q (op :: rest) a := by
  refine wpStill_step (fun K hK => ?_)
  have hw : Region.wanted op (yielded ops a.tmps) = true := by simp only [Region.wanted, hgd]
  have hrun : (execOp a.eval op).run Tryz.prog w = .ok (.value (pageV p)) w := by
    unfold execOp
    simp only [ho, hx, hp.loadsAt, Sem.run_bind, Sem.run_pure, Result.andThen_ok]
  rw [if_pos hw]
  unfold Oper.still
  rw [hrun]
  exact ⟨rfl, hK _ h⟩
theorem wpList_map_store {ops : Array Oper} {rest : List Oper} {o : Oper} {a : Act} {Q : Exit → Act → World → Prop} {w : World} {b : Nat} {c : List (Option (List UInt8))} (h : MapAt w b c) (i : Nat) (hi : i < c.length) (hc : c.length ≤ 1000) {p : List UInt8} (hp : p.length = 64)
    (hgd : o.guard = none) (m x v : Operand) (hop : o.op = .mapUpdate 91 m x v) (hm : a.eval m = .map (some b)) (hx : a.eval x = .int .i64 (i : Int)) (hv : a.eval v = pageV p)
    (hK : ∀ w', MapAt w' b (c.set i (some p)) → w.mapTurned w' b → wpList Tryz.prog ops Q rest (a.put o.dst undef) w') : wpList Tryz.prog ops Q (o :: rest) a w := by
  refine wpList_plain hgd fun K' hK' => ?_
  obtain ⟨w', hrun, r1, r2⟩ := h.store i hi hc hp
  unfold Oper.wp
  simp [execOp, hop, hm, hx, hv, hrun, Result.andThen]
  exact hK' _ _ (hK w' r1 r2)
theorem write_any {w : World} {d l m : Nat} {s : Dk.St} (h : DiskAt w d l m s) (i : Int) (p : List UInt8) (hp : p.length = 64) : Calls Tryz.prog 97 #[.pointer (some ⟨d, 0, none⟩), .int .i64 i, pageV p] w fun e w' =>
    e = .returned (.int .i64 (Dk.writeE s i)) ∧ DiskAt w' d l m (Dk.write s i p) ∧ Only [d, m] w w' := by
  have HP := Lib.hid hp
  have HQ := Lib.hid (pageAt_new w p 97 hp)
  have HD := Lib.hid (h.alloc (.cells (byteVals p).toArray 97))
  have HO : Hid (Only [d, m] w (w.alloc (.cells (byteVals p).toArray 97))) := Lib.hid ((Only.refl _ _).alloc _)
  have HR := Lib.hid (reach_any HD.out i)
  have HS := Lib.hid (spend_any HD.out)
  have hne : w.heap.size ≠ d := by have := h.dlt; omega
  have HNE := Lib.hid hne
  have hlt : w.heap.size < (w.alloc (.cells (byteVals p).toArray 97)).heap.size := by simp
  have HLT := Lib.hid hlt
  have HOK := Lib.hid h.ok
  clear hp h hne hlt
  unfold pageV
  by_cases c : Dk.reachE s i = 0
  · obtain ⟨a0, a1⟩ := Dk.has_yes (Dk.reach_zero c).2
    obtain ⟨k, rfl⟩ := Int.eq_ofNat_of_zero_le a0
    rw [c] at HR
    have HK : Hid (k < s.last.length) := Lib.hid (by omega)
    have HW : Hid (Dk.writeE s (k : Int) = Dk.spendE s) := Lib.hid (by unfold Dk.writeE; rw [if_pos c])
    by_cases e : Dk.spendE s = 0
    · have HW2 : Hid (Dk.write s (k : Int) p = Dk.put (Dk.spend s) k p) := Lib.hid (by unfold Dk.write; rw [if_pos c, if_pos e, Int.toNat_natCast])
      rw [e] at HS
      rw [HW.out, HW2.out, e]
      clear a0 a1 c e HW HW2
      go_enter Tryz.func97, Tryz.ntmps97
      go_wp2_with fail
      generalize w.alloc (.cells (byteVals p).toArray 97) = w1 at HQ HD HO HR HS HLT ⊢
      refine HR.out.mono ?_
      rintro e w' ⟨rfl, rfl⟩
      go_wp2_with fail
      refine HS.out.mono ?_
      rintro e w2 ⟨rfl, hd2, ho2, hz2⟩
      have c4 := hd2.c4
      have HQ2 := Lib.hid (HQ.out.block (ho2.block _ HLT.out (by simpa using HNE.out)))
      have HD2 := Lib.hid hd2
      have HO2 := Lib.hid (HO.out.trans (ho2.mono (by simp)))
      clear hd2 ho2 hz2 HQ HD HO HR HS HLT
      go_wp2_with fail
      refine wp_region_still_tail 6 (by kernel_rfl) (by kernel_rfl) ?_
      simp only [List.take_succ_cons, List.take_zero, List.drop_succ_cons, List.drop_zero]
      change wpStill _ _ w2.drew (fun a' => wpList _ _ _ _ a' w2.drew) _ _
      have c4' : w2.drew.cell? ⟨d, 4, none⟩ = some (.map (some m)) := c4
      still_step
      still_step
      still_step
      still_step
      still_step
      refine wpStill_load_page (HQ2.out.block rfl) rfl (.tmp 5) rfl rfl ?_
      refine wpStill_nil ?_
      refine wpList_map_store (HD2.out.map.block (w' := w2.drew) rfl) k (by rw [Dk.spend_cache, HOK.out.same]; exact HK.out) (by rw [Dk.spend_cache, HOK.out.same]; have := HOK.out.small; omega) HP.out rfl (.tmp 25) (.tmp 26) (.tmp 27) rfl rfl rfl rfl ?_
      intro w3 hm3 ht3
      go_wp2
      go_ret
      refine ⟨rfl, HD2.out.drew.setMap ht3.grown hm3 (Dk.put_ok (Dk.spend_ok HOK.out) k HP.out), HO2.out.drew.trans (Only.grown ht3.grown (by simp))⟩
    · have HW2 : Hid (Dk.write s (k : Int) p = Dk.spend s) := Lib.hid (by unfold Dk.write; rw [if_pos c, if_neg e])
      rw [HW.out, HW2.out]
      have hne2 : (Dk.spendE s == 0) = false := by simpa using e
      have hne3 : (Dk.spendE s != 0) = true := by simpa using e
      generalize Dk.spendE s = E at HS hne2 hne3 ⊢
      clear a0 a1 c e HW HW2
      go_enter Tryz.func97, Tryz.ntmps97
      go_wp2_with fail
      generalize w.alloc (.cells (byteVals p).toArray 97) = w1 at HQ HD HO HR HS HLT ⊢
      refine HR.out.mono ?_
      rintro e w' ⟨rfl, rfl⟩
      go_wp2_with fail
      refine HS.out.mono ?_
      rintro e w2 ⟨rfl, hd2, ho2, hz2⟩
      go_wp2
      go_ret
      exact ⟨rfl, hd2, HO.out.trans (ho2.mono (by simp))⟩
  · have HW : Hid (Dk.writeE s i = Dk.reachE s i) := Lib.hid (by unfold Dk.writeE; rw [if_neg c])
    have HW2 : Hid (Dk.write s i p = s) := Lib.hid (by unfold Dk.write; rw [if_neg c])
    rw [HW.out, HW2.out]
    have hne2 : (Dk.reachE s i == 0) = false := by simpa using c
    have hne3 : (Dk.reachE s i != 0) = true := by simpa using c
    generalize Dk.reachE s i = E at HR hne2 hne3 ⊢
    clear c HW HW2
    go_enter Tryz.func97, Tryz.ntmps97
    go_wp2_with fail
    generalize w.alloc (.cells (byteVals p).toArray 97) = w1 at HQ HD HO HR HS HLT ⊢
    refine HR.out.mono ?_
    rintro e w' ⟨rfl, rfl⟩
    go_wp2
    go_ret
    exact ⟨rfl, HD.out, HO.out⟩
end

section
open Go.RowKit
open Dk (zeros zeros_length)
end

section
open Go.RowKit Go.Maps
open Dk (zeros zeros_length)
def mixL (s : Dk.St) (left : Nat → Bool) : List (List UInt8) := (List.range s.last.length).map fun i => if left i then Dk.lastAt s i else Dk.nowAt s i
theorem mixL_length (s : Dk.St) (left : Nat → Bool) : (mixL s left).length = s.last.length := by unfold mixL; simp
theorem mixL_at (s : Dk.St) (left : Nat → Bool) (i : Nat) (hi : i < s.last.length) : (mixL s left)[i]? = some (if left i then Dk.lastAt s i else Dk.nowAt s i) := by
  unfold mixL
  rw [List.getElem?_map, List.getElem?_range hi]; rfl
theorem mixL_start (s : Dk.St) (left : Nat → Bool) (h : ∀ i, i < s.last.length → left i = false → Dk.cacheAt s i = none) : mixL s left = s.last := by
  apply List.ext_getElem?
  intro i
  by_cases hi : i < s.last.length
  · rw [mixL_at s left i hi]
    have hl : s.last[i]? = some (Dk.lastAt s i) := by unfold Dk.lastAt; rw [List.getD_eq_getElem?_getD, List.getElem?_eq_getElem hi]; rfl
    rw [hl]
    cases e : left i with
    | true => rfl
    | false =>
      have := h i hi e
      simp [Dk.nowAt, this]
  · rw [List.getElem?_eq_none (by rw [mixL_length]; omega), List.getElem?_eq_none (by omega)]
theorem mixL_end (s : Dk.St) (left : Nat → Bool) (h : ∀ i, left i = false) : mixL s left = (Dk.flushed s).last := by
  unfold mixL Dk.flushed
  apply List.map_congr_left
  intro i _
  rw [h i]; rfl
theorem mixL_step (s : Dk.St) (left left' : Nat → Bool) (i : Nat) (p : List UInt8) (hi : i < s.last.length) (hp : Dk.cacheAt s i = some p) (h1 : left' i = false) (h2 : ∀ j, j ≠ i → left' j = left j) : (mixL s left).set i p = mixL s left' := by
  apply List.ext_getElem?
  intro j
  rw [List.getElem?_set]
  by_cases e : i = j
  · subst e
    rw [if_pos rfl, if_pos (by rw [mixL_length]; exact hi), mixL_at s left' i hi, h1]
    simp [Dk.nowAt, hp]
  · rw [if_neg e]
    by_cases hj : j < s.last.length
    · rw [mixL_at s left j hj, mixL_at s left' j hj, h2 j (fun q => e q.symm)]
    · rw [List.getElem?_eq_none (by rw [mixL_length]; omega), List.getElem?_eq_none (by rw [mixL_length]; omega)]
theorem Only.newer {l : List Nat} {b : Nat} {a w w' : World} (h : Only l a w) (k : Only [b] w w') (hb : a.heap.size ≤ b) : Only l a w' :=
  ⟨k.os.trans h.os, k.tape.trans h.tape, k.output.trans h.output, Nat.le_trans h.size k.size, fun i hi hn => (k.block i (Nat.lt_of_lt_of_le hi h.size) (by simp; omega)).trans (h.block i hi hn)⟩
structure FlushAt (w1 : World) (l m r : Nat) (s : Dk.St) (D : DataW (List UInt8)) (left : Lit → Bool) (cnt : Nat) (w : World) : Prop where
  rg : w.ranges Tryz.prog 3 pageR m r (Maps.size D) D left cnt
  rows : RowsAt w l (mixL s (fun i => left (.int .i64 (i : Int))))
  only : Only [l] w1 w
  sub : ∀ kl, left kl = true → Maps.has D kl = true
theorem invK : ∀ key kl, keyOf Tryz.prog 3 key = some kl → ∃ x, key = Value.int .i64 x := fun key kl h => by
  obtain ⟨x, rfl, _⟩ := Maps.keyOf_int_inv Tryz.underlying3 h
  exact ⟨x, rfl⟩
theorem invV : ∀ v (y : DataW (List UInt8) × List MemPlace), pageR v = some y → ∃ c, v = pageV c := fun v y h => by
  obtain ⟨p, _, rfl, _⟩ := pageR_inv h
  exact ⟨p, rfl⟩
theorem came {s : Dk.St} (hok : s.Ok) {D : DataW (List UInt8)} (hD : MapIs D s.cache) {x : Int} {c : List UInt8} {kl : Lit} {y : DataW (List UInt8) × List MemPlace} (hkey : keyOf Tryz.prog 3 (.int .i64 x) = some kl) (hl : Maps.has D kl = true) (hv : pageR (pageV c) = some y) (hat : ∀ zd, D.atKey kl zd = y.1) :
    ∃ i : Nat, x = (i : Int) ∧ kl = .int .i64 (i : Int) ∧ i < s.last.length ∧ Dk.cacheAt s i = some c ∧ c.length = 64 := by
  obtain ⟨x', ex, rfl, _⟩ := Maps.keyOf_int_inv Tryz.underlying3 hkey
  injection ex with _ ex
  subst ex
  rw [hD.has] at hl
  have h0 : 0 ≤ x ∧ (s.cache.getD x.toNat none).isSome = true := by simpa using hl
  obtain ⟨i, rfl⟩ := Int.eq_ofNat_of_zero_le h0.1
  rw [Int.toNat_natCast] at h0
  obtain ⟨p, hp⟩ := Option.isSome_iff_exists.1 h0.2
  obtain ⟨q, hq, e1, e2⟩ := pageR_inv hv
  have hcq := pageV_inj e1
  have := hD.held i p hp .nil
  rw [hat, e2] at this
  injection this with this
  refine ⟨i, rfl, rfl, ?_, ?_, by rw [hcq]; exact hq⟩
  · rw [List.getD_eq_getElem?_getD] at hp
    rw [← hok.same]
    by_cases hi : i < s.cache.length
    · exact hi
    · rw [List.getElem?_eq_none (by omega)] at hp; cases hp
  · unfold Dk.cacheAt; rw [hp, hcq, this]
theorem flush_loop_start {w1 w2 : World} {d l m r : Nat} {s : Dk.St} (h : DiskAt w1 d l m s) {D : DataW (List UInt8)} (hD : MapIs D s.cache) (hrg : w2.ranges Tryz.prog 3 pageR m r (Maps.size D) D (Maps.has D) (Maps.size D)) (hg : w1.grownBy w2 none) :
    FlushAt w1 l m r s D (Maps.has D) (Maps.size D) w2 where
  rg := hrg
  rows := by
    rw [mixL_start s _ (fun i hi e => by
      rw [hD.has] at e
      cases hc : Dk.cacheAt s i with
      | none => rfl
      | some p =>
        have : s.cache.getD i none = some p := hc
        rw [Int.toNat_natCast, this] at e
        simp at e)]
    exact h.rows.block (hg.block l h.llt (by simp))
  only := Only.grownNone hg
  sub := fun _ h => h
theorem flush_next {w1 w w' : World} {l m r : Nat} {s : Dk.St} {D : DataW (List UInt8)} {left : Lit → Bool} {cnt cnt' : Nat} {i : Nat} {p : List UInt8} (h : FlushAt w1 l m r s D left cnt w) (hr : w1.heap.size ≤ r) (hl : l < w1.heap.size) (_hm : m < w1.heap.size) (hlm : l ≠ m)
    (hrg : w'.ranges Tryz.prog 3 pageR m r (Maps.size D) D (fun z => left z && !z.sameKey (.int .i64 (i : Int))) cnt') (hg : w.grownBy w' (some r)) (hi : i < s.last.length) (hp : Dk.cacheAt s i = some p) (hpl : p.length = 64) {w2 : World} (hb : Below w'.heap.size w' w2) :
    RowsAt w2 l (mixL s (fun i => left (.int .i64 (i : Int)))) ∧ FlushAt w1 l m r s D (fun z => left z && !z.sameKey (.int .i64 (i : Int))) cnt' (w2.setCells l (i * 64) (byteVals p)) ∧ Only [l] w1 w2 := by
  have ho : Only [l] w1 w2 := (h.only.newer (Only.grown hg (by simp)) hr).trans (Only.below hb)
  have hlw : l < w'.heap.size := Nat.lt_of_lt_of_le (Nat.lt_of_lt_of_le hl h.only.size) hg.size
  have hrow : RowsAt w2 l (mixL s (fun i => left (.int .i64 (i : Int)))) :=
    (h.rows.block (hg.block l (Nat.lt_of_lt_of_le hl h.only.size) (fun e => by injection e with e; omega))).block (hb.block l hlw)
  refine ⟨hrow, ⟨?_, ?_, Only.setCells l (by simp) _ _ _ ho, fun kl e => h.sub kl (by simp at e; exact e.1)⟩, ho⟩
  · have h1 : w2.ranges Tryz.prog 3 pageR m r (Maps.size D) D (fun z => left z && !z.sameKey (.int .i64 (i : Int))) cnt' :=
      hrg.kept (row := none) ⟨hb.os, hb.tape, hb.output, hb.size, fun k hk _ => hb.block k hk⟩ (by simp) (by simp)
    have hrl : r ≠ l := by omega
    refine h1.kept (row := some l) ⟨?_, ?_, ?_, ?_, ?_⟩ (fun e => by injection e with e; exact hlm e.symm) (fun e => by injection e with e; exact hrl e)
    · exact (Only.setCells (a := w2) l (l := [l]) (by simp) (byteVals p) (i * 64) w2 (Only.refl _ _)).os
    · exact (Only.setCells (a := w2) l (l := [l]) (by simp) (byteVals p) (i * 64) w2 (Only.refl _ _)).tape
    · exact (Only.setCells (a := w2) l (l := [l]) (by simp) (byteVals p) (i * 64) w2 (Only.refl _ _)).output
    · exact (Only.setCells (a := w2) l (l := [l]) (by simp) (byteVals p) (i * 64) w2 (Only.refl _ _)).size
    · intro k hk hn
      exact heap_setCells_other l _ _ _ k (fun e => hn (by rw [e]))
  · have := hrow.put i (by rw [mixL_length]; exact hi) p hpl
    rw [mixL_step s _ (fun j => left (.int .i64 (j : Int)) && !(Lit.int .i64 (j : Int)).sameKey (.int .i64 (i : Int))) i p hi hp (by simp [Lit.sameKey]) (fun j hj => by
      have hne : (j : Int) ≠ (i : Int) := by omega
      simp [Lit.sameKey, hne])] at this
    exact this
theorem flush_end {w1 w w' : World} {d l m r : Nat} {s : Dk.St} (h1 : DiskAt w1 d l m s) {D : DataW (List UInt8)} {left : Lit → Bool} {cnt : Nat} (h : FlushAt w1 l m r s D left cnt w) (hleft : ∀ kl, left kl = false)
    (hm : MapAt w' m (List.replicate s.last.length none)) (ht : w.mapTurned w' m) : DiskAt w' d l m (Dk.flushed s) ∧ Only [l, m] w1 w' := by
  have hd : w'.heap[d]? = w1.heap[d]? := (ht.grown.block d (Nat.lt_of_lt_of_le h1.dlt h.only.size) (fun e => h1.dm (by injection e))).trans (h.only.block d h1.dlt (by simpa using h1.dl))
  have hrow : RowsAt w' l (Dk.flushed s).last := by
    rw [← mixL_end s (fun i => left (.int .i64 (i : Int))) (fun i => hleft _)]
    exact h.rows.block (ht.grown.block l (Nat.lt_of_lt_of_le h1.llt h.only.size) (fun e => h1.lm (by injection e)))
  have hlen : (Dk.flushed s).last.length = s.last.length := by unfold Dk.flushed; simp
  refine ⟨?_, (h.only.mono (by simp)).trans (Only.grown ht.grown (by simp))⟩
  exact { ok := Dk.flushed_ok h1.ok, dl := h1.dl, dm := h1.dm, lm := h1.lm
          c0 := (World.cell?_of_block (w := w1) (a := ⟨d, 0, none⟩) hd).trans h1.c0
          c1 := (World.cell?_of_block (w := w1) (a := ⟨d, 1, none⟩) hd).trans h1.c1
          c2 := (World.cell?_of_block (w := w1) (a := ⟨d, 2, none⟩) hd).trans h1.c2
          c3 := by rw [hlen]; exact (World.cell?_of_block (w := w1) (a := ⟨d, 3, none⟩) hd).trans h1.c3
          c4 := (World.cell?_of_block (w := w1) (a := ⟨d, 4, none⟩) hd).trans h1.c4
          f0 := (World.frozen?_of_block (w := w1) (a := ⟨d, 0, none⟩) hd).trans h1.f0
          f1 := (World.frozen?_of_block (w := w1) (a := ⟨d, 1, none⟩) hd).trans h1.f1
          f2 := (World.frozen?_of_block (w := w1) (a := ⟨d, 2, none⟩) hd).trans h1.f2
          rows := hrow, map := hm }
end
end Go.Proofs.YtmpfcgjjejlhdaaGreat
