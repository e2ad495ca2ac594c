/-
  The reference's disk in memory, by the same state as the program's.
-/
import Derived.Test.YtppbiohjhnoagaaGreatMhb
import Derived.Test.YtppbiohjhnoagaaGreatMdb
import Derived.RegionTactic
namespace Go.Proofs.YtppbiohjhnoagaaGreat
open Go.RowKit
open Dk (zeros zeros_length)

/-! ### a row of bools -/
structure BoolsAt (w : World) (b : Nat) (bs : List Bool) : Prop where
  cell : ∀ i v, bs[i]? = some v → w.cell? ⟨b, i, none⟩ = some (.bool v)
  frozen : ∀ i, i < bs.length → w.frozen? ⟨b, i, none⟩ = false
set_option maxRecDepth 100000 in
theorem BoolsAt.block {w w' : World} {b : Nat} {bs : List Bool} (h : BoolsAt w b bs) (hb : w'.heap[b]? = w.heap[b]?) : BoolsAt w' b bs :=
  ⟨fun i v hv => (World.cell?_of_block (w := w) (a := ⟨b, i, none⟩) hb).trans (h.cell i v hv), fun i hi => (World.frozen?_of_block (w := w) (a := ⟨b, i, none⟩) hb).trans (h.frozen i hi)⟩
set_option maxRecDepth 100000 in
theorem BoolsAt.at {w : World} {b : Nat} {bs : List Bool} (h : BoolsAt w b bs) (i : Nat) (hi : i < bs.length) : w.cell? ⟨b, i, none⟩ = some (.bool (bs.getD i false)) := by
  refine h.cell i _ ?_
  rw [List.getD_eq_getElem?_getD, List.getElem?_eq_getElem hi]; rfl
set_option maxRecDepth 100000 in
theorem BoolsAt.lt {w : World} {b : Nat} {bs : List Bool} (h : BoolsAt w b bs) (h0 : 0 < bs.length) : b < w.heap.size := World.block_lt_of_cell? w _ (h.at 0 h0)
set_option maxRecDepth 100000 in
theorem BoolsAt.set {w : World} {b : Nat} {bs : List Bool} (h : BoolsAt w b bs) (i : Nat) (hi : i < bs.length) (x : Bool) : BoolsAt (w.setCell ⟨b, i, none⟩ (.bool x)) b (bs.set i x) where
  cell := fun j v hv => by
    rw [List.getElem?_set] at hv
    by_cases e : i = j
    · subst e
      rw [if_pos rfl, if_pos hi] at hv
      injection hv with hv
      rw [← hv]
      exact World.cell?_setCell_same' _ _ _ (by rw [h.at i hi]; rfl)
    · rw [if_neg e] at hv
      rw [World.cell?_setCell_other _ _ _ _ (fun q => e (by injection q))]
      exact h.cell j v hv
  frozen := fun j hj => by
    rw [World.frozen?_setCell]
    exact h.frozen j (by rwa [List.length_set] at hj)

/-! ### the reference's disk -/
def onOf (s : Dk.St) : List Bool := s.cache.map (·.isSome)
def leftOf (s : Dk.St) : Int := if s.lim = true then s.left else -1
set_option maxRecDepth 100000 in
theorem onOf_length (s : Dk.St) : (onOf s).length = s.cache.length := by unfold onOf; simp
set_option maxRecDepth 100000 in
theorem onOf_at (s : Dk.St) (i : Nat) (hi : i < s.cache.length) : (onOf s).getD i false = (Dk.cacheAt s i).isSome := by
  unfold onOf Dk.cacheAt
  rw [List.getD_eq_getElem?_getD, List.getElem?_map, List.getElem?_eq_getElem hi, List.getD_eq_getElem?_getD, List.getElem?_eq_getElem hi]; rfl
/-- what was written since -/
structure NewAt (w : World) (b : Nat) (s : Dk.St) (new : List (List UInt8)) : Prop where
  rows : RowsAt w b new
  len : new.length = s.last.length
  held : ∀ i p, Dk.cacheAt s i = some p → new[i]? = some p
structure RefAt (w : World) (r a b c : Nat) (s : Dk.St) : Prop where
  ok : s.Ok
  ra : r ≠ a
  rb : r ≠ b
  rc : r ≠ c
  ab : a ≠ b
  ac : a ≠ c
  bc : b ≠ c
  c0 : w.cell? ⟨r, 0, none⟩ = some (.slice (some ⟨a, 0, none⟩) s.last.length s.last.length)
  c1 : w.cell? ⟨r, 1, none⟩ = some (.slice (some ⟨b, 0, none⟩) s.last.length s.last.length)
  c2 : w.cell? ⟨r, 2, none⟩ = some (.slice (some ⟨c, 0, none⟩) s.last.length s.last.length)
  c3 : w.cell? ⟨r, 3, none⟩ = some (.int .i64 (leftOf s))
  c4 : w.cell? ⟨r, 4, none⟩ = some (.bool s.down)
  f3 : w.frozen? ⟨r, 3, none⟩ = false
  f4 : w.frozen? ⟨r, 4, none⟩ = false
  rows : RowsAt w a s.last
  new : ∃ new, NewAt w b s new
  on : BoolsAt w c (onOf s)
set_option maxRecDepth 100000 in
theorem RefAt.n {w : World} {r a b c : Nat} {s : Dk.St} (h : RefAt w r a b c s) : (onOf s).length = s.last.length := by rw [onOf_length, h.ok.same]
set_option maxRecDepth 100000 in
theorem RefAt.rlt {w : World} {r a b c : Nat} {s : Dk.St} (h : RefAt w r a b c s) : r < w.heap.size := World.block_lt_of_cell? w _ h.c0
set_option maxRecDepth 100000 in
theorem RefAt.alt {w : World} {r a b c : Nat} {s : Dk.St} (h : RefAt w r a b c s) : a < w.heap.size := h.rows.lt h.ok.pos
set_option maxRecDepth 100000 in
theorem RefAt.blt {w : World} {r a b c : Nat} {s : Dk.St} (h : RefAt w r a b c s) : b < w.heap.size := by
  obtain ⟨new, hn⟩ := h.new
  exact hn.rows.lt (by rw [hn.len]; exact h.ok.pos)
set_option maxRecDepth 100000 in
theorem RefAt.clt {w : World} {r a b c : Nat} {s : Dk.St} (h : RefAt w r a b c s) : c < w.heap.size := h.on.lt (by rw [h.n]; exact h.ok.pos)
set_option maxRecDepth 100000 in
/-- all of it anew, out of what its blocks hold -/
theorem RefAt.renew {w w' : World} {r a b c : Nat} {s s' : Dk.St} (h : RefAt w r a b c s) (hr : w'.heap[r]? = w.heap[r]?) (hok : s'.Ok) (hl : s'.last.length = s.last.length) (hf : leftOf s' = leftOf s) (hd : s'.down = s.down) (hrows : RowsAt w' a s'.last) (hnew : ∃ new, NewAt w' b s' new) (hon : BoolsAt w' c (onOf s')) : RefAt w' r a b c s' where
  ok := hok
  ra := h.ra
  rb := h.rb
  rc := h.rc
  ab := h.ab
  ac := h.ac
  bc := h.bc
  c0 := (World.cell?_of_block (w := w) (a := ⟨r, 0, none⟩) hr).trans (by rw [hl]; exact h.c0)
  c1 := (World.cell?_of_block (w := w) (a := ⟨r, 1, none⟩) hr).trans (by rw [hl]; exact h.c1)
  c2 := (World.cell?_of_block (w := w) (a := ⟨r, 2, none⟩) hr).trans (by rw [hl]; exact h.c2)
  c3 := (World.cell?_of_block (w := w) (a := ⟨r, 3, none⟩) hr).trans (by rw [hf]; exact h.c3)
  c4 := (World.cell?_of_block (w := w) (a := ⟨r, 4, none⟩) hr).trans (by rw [hd]; exact h.c4)
  f3 := (World.frozen?_of_block (w := w) (a := ⟨r, 3, none⟩) hr).trans h.f3
  f4 := (World.frozen?_of_block (w := w) (a := ⟨r, 4, none⟩) hr).trans h.f4
  rows := hrows
  new := hnew
  on := hon
set_option maxRecDepth 100000 in
theorem RefAt.blocks {w w' : World} {r a b c : Nat} {s : Dk.St} (h : RefAt w r a b c s) (hr : w'.heap[r]? = w.heap[r]?) (ha : w'.heap[a]? = w.heap[a]?) (hb : w'.heap[b]? = w.heap[b]?) (hc : w'.heap[c]? = w.heap[c]?) : RefAt w' r a b c s := by
  obtain ⟨new, hn⟩ := h.new
  exact h.renew hr h.ok rfl rfl rfl (h.rows.block ha) ⟨new, hn.rows.block hb, hn.len, hn.held⟩ (h.on.block hc)
set_option maxRecDepth 100000 in
theorem RefAt.only {w w' : World} {r a b c : Nat} {s : Dk.St} {L : List Nat} (h : RefAt w r a b c s) (ho : Only L w w') (hr : r ∉ L) (ha : a ∉ L) (hb : b ∉ L) (hc : c ∉ L) : RefAt w' r a b c s :=
  h.blocks (ho.block r h.rlt hr) (ho.block a h.alt ha) (ho.block b h.blt hb) (ho.block c h.clt hc)
set_option maxRecDepth 100000 in
theorem RefAt.below {w w' : World} {r a b c : Nat} {s : Dk.St} (h : RefAt w r a b c s) (hb : Below w.heap.size w w') : RefAt w' r a b c s :=
  h.only (L := []) (Only.below hb) (by simp) (by simp) (by simp) (by simp)
set_option maxRecDepth 100000 in
theorem RefAt.alloc {w : World} {r a b c : Nat} {s : Dk.St} (h : RefAt w r a b c s) (o : Obj) : RefAt (w.alloc o) r a b c s := h.below ((Below.refl _ _).alloc (Nat.le_refl _) _)
set_option maxRecDepth 100000 in
theorem RefAt.drew {w : World} {r a b c : Nat} {s : Dk.St} (h : RefAt w r a b c s) : RefAt w.drew r a b c s := h.blocks rfl rfl rfl rfl
set_option maxRecDepth 100000 in
/-- its own block is written -/
theorem RefAt.setLeft {w : World} {r a b c : Nat} {s s' : Dk.St} (h : RefAt w r a b c s) (x : Int) (hok : s'.Ok) (hl : s'.last = s.last) (hcc : s'.cache = s.cache) (hx : leftOf s' = x) (hd : s'.down = s.down) :
    RefAt (w.setCell ⟨r, 3, none⟩ (.int .i64 x)) r a b c s' := by
  obtain ⟨new, hn⟩ := h.new
  have hbk : ∀ k, k ≠ r → (w.setCell ⟨r, 3, none⟩ (.int .i64 x)).heap[k]? = w.heap[k]? := fun k hk => Below.heap_setCell _ _ _ _ hk
  have hon : onOf s' = onOf s := by unfold onOf; rw [hcc]
  exact { ok := hok, ra := h.ra, rb := h.rb, rc := h.rc, ab := h.ab, ac := h.ac, bc := h.bc
          c0 := by rw [World.cell?_setCell_other _ _ _ _ (fun q => by injection q with _ q; omega), hl]; exact h.c0
          c1 := by rw [World.cell?_setCell_other _ _ _ _ (fun q => by injection q with _ q; omega), hl]; exact h.c1
          c2 := by rw [World.cell?_setCell_other _ _ _ _ (fun q => by injection q with _ q; omega), hl]; exact h.c2
          c3 := by rw [hx]; exact World.cell?_setCell_same' _ _ _ (by rw [h.c3]; rfl)
          c4 := by rw [World.cell?_setCell_other _ _ _ _ (fun q => by injection q with _ q; omega), hd]; exact h.c4
          f3 := by rw [World.frozen?_setCell]; exact h.f3
          f4 := by rw [World.frozen?_setCell]; exact h.f4
          rows := by rw [hl]; exact h.rows.block (hbk a (Ne.symm h.ra))
          new := ⟨new, hn.rows.block (hbk b (Ne.symm h.rb)), by rw [hl]; exact hn.len, fun i p hp => hn.held i p (by unfold Dk.cacheAt at hp ⊢; rw [← hcc]; exact hp)⟩
          on := by rw [hon]; exact h.on.block (hbk c (Ne.symm h.rc)) }
set_option maxRecDepth 100000 in
theorem RefAt.setDown {w : World} {r a b c : Nat} {s s' : Dk.St} (h : RefAt w r a b c s) (d : Bool) (hok : s'.Ok) (hl : s'.last = s.last) (hcc : s'.cache = s.cache) (hx : leftOf s' = leftOf s) (hd : s'.down = d) :
    RefAt (w.setCell ⟨r, 4, none⟩ (.bool d)) r a b c s' := by
  obtain ⟨new, hn⟩ := h.new
  have hbk : ∀ k, k ≠ r → (w.setCell ⟨r, 4, none⟩ (.bool d)).heap[k]? = w.heap[k]? := fun k hk => Below.heap_setCell _ _ _ _ hk
  have hon : onOf s' = onOf s := by unfold onOf; rw [hcc]
  exact { ok := hok, ra := h.ra, rb := h.rb, rc := h.rc, ab := h.ab, ac := h.ac, bc := h.bc
          c0 := by rw [World.cell?_setCell_other _ _ _ _ (fun q => by injection q with _ q; omega), hl]; exact h.c0
          c1 := by rw [World.cell?_setCell_other _ _ _ _ (fun q => by injection q with _ q; omega), hl]; exact h.c1
          c2 := by rw [World.cell?_setCell_other _ _ _ _ (fun q => by injection q with _ q; omega), hl]; exact h.c2
          c3 := by rw [World.cell?_setCell_other _ _ _ _ (fun q => by injection q with _ q; omega), hx]; exact h.c3
          c4 := by rw [hd]; exact World.cell?_setCell_same' _ _ _ (by rw [h.c4]; rfl)
          f3 := by rw [World.frozen?_setCell]; exact h.f3
          f4 := by rw [World.frozen?_setCell]; exact h.f4
          rows := by rw [hl]; exact h.rows.block (hbk a (Ne.symm h.ra))
          new := ⟨new, hn.rows.block (hbk b (Ne.symm h.rb)), by rw [hl]; exact hn.len, fun i p hp => hn.held i p (by unfold Dk.cacheAt at hp ⊢; rw [← hcc]; exact hp)⟩
          on := by rw [hon]; exact h.on.block (hbk c (Ne.symm h.rc)) }

set_option maxRecDepth 100000 in
theorem RowsAt.setOther {w : World} {b : Nat} {ps : List (List UInt8)} (h : RowsAt w b ps) {x : Addr} (hx : b ≠ x.block) (v : Value) : RowsAt (w.setCell x v) b ps := h.block (Below.heap_setCell _ _ _ _ hx)
set_option maxRecDepth 100000 in
theorem RowsAt.putOther {w : World} {b : Nat} {ps : List (List UInt8)} (h : RowsAt w b ps) {b' : Nat} (hx : b ≠ b') (o : Nat) (vs : List Value) : RowsAt (w.setCells b' o vs) b ps := h.block (heap_setCells_other b' vs o w b hx)
set_option maxRecDepth 100000 in
/-- a page was written -/
theorem RefAt.put {w : World} {r a b c : Nat} {s : Dk.St} (h : RefAt w r a b c s) (i : Nat) (hi : i < s.last.length) {p : List UInt8} (hp : p.length = 64) :
    RefAt ((w.setCells b (i * 64) (byteVals p)).setCell ⟨c, i, none⟩ (.bool true)) r a b c (Dk.put s i p) := by
  obtain ⟨new, hn⟩ := h.new
  have hbk : ∀ k, k ≠ b → k ≠ c → ((w.setCells b (i * 64) (byteVals p)).setCell ⟨c, i, none⟩ (.bool true)).heap[k]? = w.heap[k]? := fun k hk hk2 => (Below.heap_setCell _ _ _ _ hk2).trans (heap_setCells_other b _ _ w k hk)
  have hon : onOf (Dk.put s i p) = (onOf s).set i true := by unfold onOf Dk.put; rw [List.map_set]; rfl
  refine h.renew (hbk r h.rb h.rc) (Dk.put_ok h.ok i hp) rfl rfl rfl (h.rows.block (hbk a h.ab h.ac)) ⟨new.set i p, ?_, by rw [List.length_set]; exact hn.len, ?_⟩ ?_
  · exact (hn.rows.put i (by rw [hn.len]; exact hi) p hp).setOther (x := ⟨c, i, none⟩) h.bc _
  · intro j q hq
    unfold Dk.cacheAt Dk.put at hq
    rw [List.getD_eq_getElem?_getD, List.getElem?_set] at hq
    rw [List.getElem?_set]
    by_cases e : i = j
    · subst e
      rw [if_pos rfl, if_pos (by rw [h.ok.same]; exact hi)] at hq
      rw [if_pos rfl, if_pos (by rw [hn.len]; exact hi)]
      simpa using hq
    · rw [if_neg e, ← List.getD_eq_getElem?_getD] at hq
      rw [if_neg e]
      exact hn.held j q hq
  · rw [hon]
    exact (h.on.block (heap_setCells_other b _ _ w c (Ne.symm h.bc))).set i (by rw [h.n]; exact hi) true
set_option maxRecDepth 100000 in
/-- a page of the cache lasts (what it is made of is handed in), and is out of the cache -/
theorem RefAt.settle {w : World} {r a b c : Nat} {s : Dk.St} (h : RefAt w r a b c s) (i : Nat) (hi : i < s.last.length) {p : List UInt8} (hp : p.length = 64) {w' : World} (hr : w'.heap[r]? = w.heap[r]?) (hb : w'.heap[b]? = w.heap[b]?) (hc : w'.heap[c]? = w.heap[c]?) (hrows : RowsAt w' a (s.last.set i p)) :
    RefAt (w'.setCell ⟨c, i, none⟩ (.bool false)) r a b c { s with last := s.last.set i p, cache := s.cache.set i none } := by
  obtain ⟨new, hn⟩ := h.new
  have hbk : ∀ k, k ≠ c → (w'.setCell ⟨c, i, none⟩ (.bool false)).heap[k]? = w'.heap[k]? := fun k hk => Below.heap_setCell _ _ _ _ hk
  have hon : onOf { s with last := s.last.set i p, cache := s.cache.set i none } = (onOf s).set i false := by unfold onOf; rw [List.map_set]; rfl
  refine h.renew ((hbk r h.rc).trans hr) ?_ (by simp) rfl rfl (hrows.block (hbk a h.ac)) ⟨new, hn.rows.block ((hbk b h.bc).trans hb), by simp; exact hn.len, ?_⟩ ?_
  · refine ⟨by simp; exact h.ok.same, by simpa using h.ok.pos, by simpa using h.ok.small, ?_, ?_, h.ok.lo, h.ok.hi, h.ok.live⟩
    · intro q hq
      rcases List.mem_or_eq_of_mem_set hq with h1 | h1
      · exact h.ok.pages q h1
      · rw [h1]; exact hp
    · intro q hq
      rcases List.mem_or_eq_of_mem_set hq with h1 | h1
      · exact h.ok.cpages q h1
      · cases h1
  · intro j q hq
    unfold Dk.cacheAt at hq
    rw [List.getD_eq_getElem?_getD, List.getElem?_set] at hq
    by_cases e : i = j
    · subst e
      rw [if_pos rfl] at hq
      split at hq <;> cases hq
    · rw [if_neg e, ← List.getD_eq_getElem?_getD] at hq
      exact hn.held j q hq
  · rw [hon]
    exact (h.on.block hc).set i (by rw [h.n]; exact hi) false
end Go.Proofs.YtppbiohjhnoagaaGreat

/-
  The contracts of the reference's step, Fuse, Read, Cached.
-/
namespace Go.Proofs.YtppbiohjhnoagaaGreat
open Go.RowKit
open Dk (zeros zeros_length)

set_option maxRecDepth 100000 in
theorem rstep_any {w : World} {r a b c : Nat} {s : Dk.St} (h : RefAt w r a b c s) : Calls Tryz.prog 92 #[.pointer (some ⟨r, 0, none⟩)] w fun e w' =>
    e = .returned (.bool (decide (Dk.spendE s = 0))) ∧ RefAt w' r a b c (Dk.spend s) ∧ Only [r] w w' := by
  have c3 := h.c3
  have c4 := h.c4
  have f3 := h.f3
  have f4 := h.f4
  have hsok := Dk.spend_ok h.ok
  have HD := Lib.hid h
  unfold leftOf at c3
  by_cases hl : s.lim = true
  · have h0 := h.ok.live hl
    have h1 := h.ok.hi
    rw [if_pos hl] at c3
    by_cases hz : s.left = 0
    · have HE : Hid (Dk.spendE s = 5) := Lib.hid (by unfold Dk.spendE; rw [if_pos ⟨hl, hz⟩])
      have hs : Dk.spend s = { s with down := true } := by unfold Dk.spend; rw [if_pos hl, if_pos hz]
      have HR : Hid (RefAt (w.setCell ⟨r, 4, none⟩ (.bool true)) r a b c (Dk.spend s)) := Lib.hid (h.setDown true hsok (Dk.spend_last s) (Dk.spend_cache s) (by rw [hs]; rfl) (by rw [hs]))
      rw [hz] at c3
      rw [HE.out]
      clear h hl hz h0 h1 hs hsok
      go_enter Tryz.func92, Tryz.ntmps92
      go_wp2
      go_ret
      exact ⟨rfl, HR.out, (Only.refl _ _).setCell (by simp) _⟩
    · have HE : Hid (Dk.spendE s = 0) := Lib.hid (by unfold Dk.spendE; rw [if_neg (fun e => hz e.2)])
      have hs : Dk.spend s = { s with left := s.left - 1 } := by unfold Dk.spend; rw [if_pos hl, if_neg hz]
      have HR : Hid (RefAt (w.setCell ⟨r, 3, none⟩ (.int .i64 (s.left - 1))) r a b c (Dk.spend s)) := Lib.hid (h.setLeft _ hsok (Dk.spend_last s) (Dk.spend_cache s) (by rw [hs]; unfold leftOf; rw [if_pos hl]) (by rw [hs]))
      have hb : (s.left == 0) = false := by simpa using hz
      have hp : 0 < s.left := by omega
      rw [HE.out]
      clear h hl hz hs hsok
      go_enter Tryz.func92, Tryz.ntmps92
      go_wp2
      go_ret
      exact ⟨rfl, HR.out, (Only.refl _ _).setCell (by simp) _⟩
  · have HE : Hid (Dk.spendE s = 0) := Lib.hid (by unfold Dk.spendE; rw [if_neg (fun e => hl e.1)])
    have hs : Dk.spend s = s := by unfold Dk.spend; rw [if_neg hl]
    rw [if_neg hl] at c3
    rw [HE.out, hs]
    clear h hl hs hsok
    go_enter Tryz.func92, Tryz.ntmps92
    go_wp2
    go_ret
    exact ⟨rfl, HD.out, Only.refl _ _⟩
set_option maxRecDepth 100000 in
theorem setCell_twice (w : World) (p : Addr) (u v : Value) : (w.setCell p u).setCell p v = w.setCell p v := by
  unfold World.setCell
  congr 1
  apply Array.ext_getElem?
  intro i
  simp only [Array.getElem?_modify]
  by_cases h : p.block = i
  · simp only [h, if_true]
    cases w.heap[i]? with
    | none => rfl
    | some o => cases o <;> simp <;> split <;> simp_all
  · simp [h]
set_option maxRecDepth 100000 in
theorem rfuse_any {w : World} {r a b c : Nat} {s : Dk.St} (h : RefAt w r a b c s) (k : Int) (h1 : -9223372036854775808 ≤ k) (h2 : k ≤ 9223372036854775807) : Calls Tryz.prog 20 #[.pointer (some ⟨r, 0, none⟩), .int .i64 k] w fun e w' =>
    e = .returned (.tuple #[]) ∧ RefAt w' r a b c (Dk.fuse s k) ∧ Only [r] w w' := by
  have c3 := h.c3
  have f3 := h.f3
  have hok := Dk.fuse_ok h.ok k h1 h2
  by_cases hk : k < 0
  · have hd : decide (0 ≤ k) = false := decide_eq_false (by omega)
    have HR : Hid (RefAt (w.setCell ⟨r, 3, none⟩ (.int .i64 (-1))) r a b c (Dk.fuse s k)) := Lib.hid (h.setLeft (-1) hok rfl rfl (by unfold leftOf Dk.fuse; simp [hd]) rfl)
    have HT := Lib.hid (setCell_twice w ⟨r, 3, none⟩ (.int .i64 k) (.int .i64 (-1)))
    clear h hok hd
    go_enter Tryz.func20, Tryz.ntmps20
    go_wp2
    go_end0
    rw [HT.out]
    exact ⟨rfl, HR.out, (Only.refl _ _).setCell (by simp) _⟩
  · have hd : decide (0 ≤ k) = true := decide_eq_true (by omega)
    have HR : Hid (RefAt (w.setCell ⟨r, 3, none⟩ (.int .i64 k)) r a b c (Dk.fuse s k)) := Lib.hid (h.setLeft k hok rfl rfl (by unfold leftOf Dk.fuse; simp [hd]) rfl)
    clear h hok hd
    go_enter Tryz.func20, Tryz.ntmps20
    go_wp2
    go_end0
    exact ⟨rfl, HR.out, (Only.refl _ _).setCell (by simp) _⟩
end Go.Proofs.YtppbiohjhnoagaaGreat

/-
  The contracts of the reference's Read and Write.
-/
namespace Go.Proofs.YtppbiohjhnoagaaGreat
open Go.RowKit
open Dk (zeros zeros_length)

set_option maxRecDepth 100000 in
theorem rread_start (w : World) {r a b c : Nat} {s : Dk.St} (h : RefAt w r a b c s) : PageAt (w.alloc (.cells zeroCells 38)) w.heap.size zeros ∧ Below w.heap.size w (w.alloc (.cells zeroCells 38)) ∧ RefAt (w.alloc (.cells zeroCells 38)) r a b c s :=
  ⟨pageAt_zeros w 38, (Below.refl _ _).alloc (Nat.le_refl _) _, h.alloc _⟩
set_option maxRecDepth 100000 in
set_option maxHeartbeats 1000000 in
theorem rread_any {w : World} {r a b c : Nat} {s : Dk.St} (h : RefAt w r a b c s) (i : Int) : Calls Tryz.prog 36 #[.pointer (some ⟨r, 0, none⟩), .int .i64 i] w fun e w' => e = .returned (.tuple #[pageV (Dk.readP s i), .int .i64 (Dk.reachE s i)]) ∧ Below w.heap.size w w' := by
  have HS := Lib.hid (rread_start w h)
  have c4 := HS.out.2.2.c4
  have c0 := HS.out.2.2.c0
  have c2 := HS.out.2.2.c2
  have c1 := HS.out.2.2.c1
  rw [zeroCells_def] at c4 c0 c2 c1
  cases hd : s.down with
  | true =>
    have HE : Hid (Dk.reachE s i = 5) := Lib.hid (by unfold Dk.reachE; rw [if_pos hd])
    have HP : Hid (Dk.readP s i = zeros) := Lib.hid (by unfold Dk.readP; rw [HE.out, if_neg (by omega)])
    rw [HE.out, HP.out]
    rw [hd] at c4
    rw [zeroCells_def] at HS
    clear h hd HE HP c0 c1 c2
    go_enter Tryz.func36, Tryz.ntmps36
    go_wp2_with ((with_reducible refine wpList_store_page HS.out.1 zeros_length rfl (.tmp 4) (.tmp 10) rfl rfl ?_ ?_); (exact rfl))
    exact bodyPost_ret (results_page_int _ 4 5 rfl _ (HS.out.1.put _ zeros_length) rfl) rfl ⟨rfl, below_setCells _ (Nat.le_refl _) _ _ _ HS.out.2.1⟩
  | false =>
    rw [hd] at c4
    have hnd : ¬ s.down = true := by rw [hd]; simp
    by_cases hh : Dk.hasB s.last.length i = true
    · obtain ⟨q0, q1⟩ := Dk.has_yes hh
      obtain ⟨k, rfl⟩ := Int.eq_ofNat_of_zero_le q0
      have hk : k < s.last.length := by omega
      have HE : Hid (Dk.reachE s (k : Int) = 0) := Lib.hid (Dk.reach_mk hd hh)
      have HP : Hid (Dk.readP s (k : Int) = Dk.nowAt s k) := Lib.hid (by unfold Dk.readP; rw [if_pos HE.out, Int.toNat_natCast])
      have HNL := Lib.hid (Dk.nowAt_len h.ok hk)
      rw [HE.out, HP.out]
      have hon := HS.out.2.2.on.at k (by rw [h.n]; exact hk)
      rw [onOf_at s k (by rw [h.ok.same]; exact hk), zeroCells_def] at hon
      obtain ⟨new, hnew⟩ := HS.out.2.2.new
      have HNEW := Lib.hid hnew
      have t1 : ¬ (k : Int) < 0 := by omega
      have t2 : ¬ (s.last.length : Int) ≤ (k : Int) := by omega
      rw [zeroCells_def] at HS HNEW
      clear h hd hnd hh q0 HE HP hnew
      cases hc : Dk.cacheAt s k with
      | some p =>
        rw [hc] at hon
        simp only [Option.isSome_some] at hon
        have HI := Lib.hid (HNEW.out.held k p hc)
        have HNP : Hid (Dk.nowAt s k = p) := Lib.hid (by unfold Dk.nowAt; rw [hc]; rfl)
        rw [HNP.out] at HNL ⊢
        clear HNP hc
        go_enter Tryz.func36, Tryz.ntmps36
        go_wp2_with (first
          | (with_reducible refine wpList_load_row HNEW.out.rows k HI.out rfl (.tmp 35) rfl rfl ?_)
          | (with_reducible refine wpList_store_page HS.out.1 HNL.out rfl (.tmp 4) (.tmp 36) rfl rfl rfl ?_))
        exact bodyPost_ret (results_page_int _ 4 5 rfl _ (HS.out.1.put _ HNL.out) rfl) rfl ⟨rfl, below_setCells _ (Nat.le_refl _) _ _ _ HS.out.2.1⟩
      | none =>
        rw [hc] at hon
        simp only [Option.isSome_none] at hon
        obtain ⟨p, hp⟩ : ∃ p, s.last[k]? = some p := ⟨_, List.getElem?_eq_getElem hk⟩
        have HI := Lib.hid hp
        have HNP : Hid (Dk.nowAt s k = p) := Lib.hid (by unfold Dk.nowAt Dk.lastAt; rw [hc, List.getD_eq_getElem?_getD, hp]; rfl)
        rw [HNP.out] at HNL ⊢
        clear HNP hc hp
        go_enter Tryz.func36, Tryz.ntmps36
        go_wp2_with (first
          | (with_reducible refine wpList_load_row HS.out.2.2.rows k HI.out rfl (.tmp 42) rfl rfl ?_)
          | (with_reducible refine wpList_store_page HS.out.1 HNL.out rfl (.tmp 4) (.tmp 43) rfl rfl rfl ?_))
        exact bodyPost_ret (results_page_int _ 4 5 rfl _ (HS.out.1.put _ HNL.out) rfl) rfl ⟨rfl, below_setCells _ (Nat.le_refl _) _ _ _ HS.out.2.1⟩
    · have hh' : Dk.hasB s.last.length i = false := by simpa using hh
      have HE : Hid (Dk.reachE s i = 22) := Lib.hid (by unfold Dk.reachE; rw [if_neg hnd, if_neg hh])
      have HP : Hid (Dk.readP s i = zeros) := Lib.hid (by unfold Dk.readP; rw [HE.out, if_neg (by omega)])
      have hno := Dk.has_no hh'
      rw [HE.out, HP.out]
      rw [zeroCells_def] at HS
      clear h hd hnd hh hh' HE HP
      by_cases t1 : i < 0
      · clear hno
        go_enter Tryz.func36, Tryz.ntmps36
        go_wp2_with ((with_reducible refine wpList_store_page HS.out.1 zeros_length rfl (.tmp 4) (.tmp 22) rfl rfl ?_ ?_); (exact rfl))
        exact bodyPost_ret (results_page_int _ 4 5 rfl _ (HS.out.1.put _ zeros_length) rfl) rfl ⟨rfl, below_setCells _ (Nat.le_refl _) _ _ _ HS.out.2.1⟩
      · have t2 : (s.last.length : Int) ≤ i := by omega
        clear hno
        go_enter Tryz.func36, Tryz.ntmps36
        go_wp2_with ((with_reducible refine wpList_store_page HS.out.1 zeros_length rfl (.tmp 4) (.tmp 22) rfl rfl ?_ ?_); (exact rfl))
        exact bodyPost_ret (results_page_int _ 4 5 rfl _ (HS.out.1.put _ zeros_length) rfl) rfl ⟨rfl, below_setCells _ (Nat.le_refl _) _ _ _ HS.out.2.1⟩
end Go.Proofs.YtppbiohjhnoagaaGreat

/-
  The contract of the reference's Write.
-/
namespace Go.Proofs.YtppbiohjhnoagaaGreat
open Go.RowKit
open Dk (zeros zeros_length)

set_option maxRecDepth 100000 in
theorem anyH_store_row2 {ops : Array Oper} {Q : Exit → Act → World → Prop} {md : Region.Mode} {S : World → Prop} {i : Nat} {oi : Oper} {fuel : Nat} {listed : Array Bool} {a : Act} {w : World} {b : Nat} {ps : List (List UInt8)} (h : RowsAt w b ps) (n : Nat) (hn : n < ps.length) {p : List UInt8} (hp : p.length = 64)
    (hr : Region.ready md ops listed = [i]) (hi : ops[i]? = some oi) (hw : Region.wanted oi (yielded ops a.tmps) = true) (x y : Operand) (ho : oi.op = .store 38 x y) (hx : a.eval x = .pointer (some ⟨b, n * 64, none⟩)) (hy : a.eval y = pageV p) (d : Option Tmp) (hd : oi.dst = d)
    (hS : S (w.setCells b (n * 64) (byteVals p)))
    (hK : S (w.setCells b (n * 64) (byteVals p)) → wpAnyH Tryz.prog md ops Q S fuel (listed.setIfInBounds i true) (a.put d undef) (w.setCells b (n * 64) (byteVals p))) : wpAnyH Tryz.prog md ops Q S (fuel + 1) listed a w :=
  anyH_store_row h n hn hp hr hi hw x y ho hx hy d hd hS (hK hS)
set_option maxRecDepth 100000 in
theorem refKeep {W W' : World} {r B : Nat} {v u : Value} {p : List UInt8} (h : W.cell? ⟨r, 1, none⟩ = some v ∧ W.cell? ⟨r, 2, none⟩ = some u ∧ PageAt W B p) (h1 : W'.heap[r]? = W.heap[r]?) (h2 : W'.heap[B]? = W.heap[B]?) :
    W'.cell? ⟨r, 1, none⟩ = some v ∧ W'.cell? ⟨r, 2, none⟩ = some u ∧ PageAt W' B p :=
  ⟨(World.cell?_of_block (w := W) (a := ⟨r, 1, none⟩) h1).trans h.1, (World.cell?_of_block (w := W) (a := ⟨r, 2, none⟩) h1).trans h.2.1, h.2.2.block h2⟩
set_option maxRecDepth 100000 in
set_option maxHeartbeats 1000000 in
theorem rwrite_any {w : World} {r a b c : Nat} {s : Dk.St} (h : RefAt w r a b c s) (i : Int) (p : List UInt8) (hp : p.length = 64) : Calls Tryz.prog 74 #[.pointer (some ⟨r, 0, none⟩), .int .i64 i, pageV p] w fun e w' =>
    e = .returned (.int .i64 (Dk.writeE s i)) ∧ RefAt w' r a b c (Dk.write s i p) ∧ Only [r, a, b, c] w w' := by
  have HP := Lib.hid hp
  have HQ := Lib.hid (pageAt_new w p 38 hp)
  have HD := Lib.hid (h.alloc (.cells (byteVals p).toArray 38))
  have HO : Hid (Only [r, a, b, c] w (w.alloc (.cells (byteVals p).toArray 38))) := Lib.hid ((Only.refl _ _).alloc _)
  have HS := Lib.hid (rstep_any HD.out)
  have HNE : Hid (w.heap.size ≠ r) := Lib.hid (by have := h.rlt; omega)
  have HLT : Hid (w.heap.size < (w.alloc (.cells (byteVals p).toArray 38)).heap.size) := Lib.hid (by simp)
  have HOK := Lib.hid h.ok
  have HB0 := Lib.hid h.blt
  have HC0 := Lib.hid h.clt
  have c4 := HD.out.c4
  have c0 := HD.out.c0
  unfold pageV
  clear hp
  cases hd : s.down with
  | true =>
    have HE : Hid (Dk.reachE s i = 5) := Lib.hid (by unfold Dk.reachE; rw [if_pos hd])
    have HW : Hid (Dk.writeE s i = 5 ∧ Dk.write s i p = s) := Lib.hid ⟨by unfold Dk.writeE; rw [HE.out, if_neg (by omega)], by unfold Dk.write; rw [HE.out, if_neg (by omega)]⟩
    rw [HW.out.1, HW.out.2]
    rw [hd] at c4
    clear h hd HE HW
    go_enter Tryz.func74, Tryz.ntmps74
    go_wp2
    go_ret
    exact ⟨rfl, HD.out, HO.out⟩
  | false =>
    rw [hd] at c4
    have hnd : ¬ s.down = true := by rw [hd]; simp
    by_cases hh : Dk.hasB s.last.length i = true
    · obtain ⟨q0, q1⟩ := Dk.has_yes hh
      obtain ⟨k, rfl⟩ := Int.eq_ofNat_of_zero_le q0
      have hk : k < s.last.length := by omega
      have HK := Lib.hid hk
      have hre : Dk.reachE s (k : Int) = 0 := Dk.reach_mk hd hh
      have t1 : ¬ (k : Int) < 0 := by omega
      have t2 : ¬ (s.last.length : Int) ≤ (k : Int) := by omega
      have hWE : Dk.writeE s (k : Int) = Dk.spendE s := by unfold Dk.writeE; rw [if_pos hre]
      by_cases e : Dk.spendE s = 0
      · have hW : Dk.write s (k : Int) p = Dk.put (Dk.spend s) k p := by unfold Dk.write; rw [if_pos hre, if_pos e, Int.toNat_natCast]
        rw [hWE, hW, e]
        have hde : decide (Dk.spendE s = 0) = true := decide_eq_true e
        rw [hde] at HS
        have hlast := Dk.spend_last s
        clear h hd hnd hh q0 hre hWE hW e hde
        generalize Dk.spend s = s1 at HS hlast ⊢
        have HLAST := Lib.hid hlast
        clear hlast
        go_enter Tryz.func74, Tryz.ntmps74
        go_wp2_with fail
        generalize w.alloc (.cells (byteVals p).toArray 38) = w1 at HQ HD HO HS HLT c4 c0 ⊢
        refine HS.out.mono ?_
        rintro e w2 ⟨rfl, hd2, ho2⟩
        have HQ2 := Lib.hid (HQ.out.block (ho2.block _ HLT.out (by simpa using HNE.out)))
        have HD2 := Lib.hid hd2
        have HO2 := Lib.hid (HO.out.trans (ho2.mono (by simp)))
        have e1 := hd2.c1
        have e2 := hd2.c2
        rw [HLAST.out] at e1 e2
        obtain ⟨new, hnew⟩ := hd2.new
        have HNEW := Lib.hid hnew
        have g2 := HD2.out.on.at k (by rw [HD2.out.n, HLAST.out]; exact HK.out)
        have g3 := HD2.out.on.frozen k (by rw [HD2.out.n, HLAST.out]; exact HK.out)
        clear hd2 ho2 HQ HD HO HS HLT c4 c0 hnew
        generalize (onOf s1).getD k false = ov at g2
        go_wp2_with fail
        have HPUT := Lib.hid (HD2.out.drew.put k (by rw [HLAST.out]; exact HK.out) HP.out)
        have hk0 : (0 : Int) ≤ (k : Int) := by omega
        have hbc := HD2.out.bc
        have HNR := Lib.hid (HNEW.out.rows.block (w' := w2.drew) rfl)
        have HBB : Hid (w.heap.size ≠ b) := Lib.hid (by have := HB0.out; omega)
        have HBC : Hid (w.heap.size ≠ c) := Lib.hid (by have := HC0.out; omega)
        have g2' : (w2.drew.setCells b (k * 64) (byteVals p)).cell? ⟨c, k, none⟩ = some (.bool ov) := (World.cell?_of_block (w := w2) (a := ⟨c, k, none⟩) (heap_setCells_other b _ _ w2.drew c (Ne.symm hbc))).trans g2
        have g3' : (w2.drew.setCells b (k * 64) (byteVals p)).frozen? ⟨c, k, none⟩ = false := (World.frozen?_of_block (w := w2) (a := ⟨c, k, none⟩) (heap_setCells_other b _ _ w2.drew c (Ne.symm hbc))).trans g3
        refine wp_region_noPanic ?_
        refine wp_region_held_drew (S := fun W => W.cell? ⟨r, 1, none⟩ = some (.slice (some ⟨b, 0, none⟩) s.last.length s.last.length) ∧ W.cell? ⟨r, 2, none⟩ = some (.slice (some ⟨c, 0, none⟩) s.last.length s.last.length) ∧ PageAt W w.heap.size p) (by kernel_rfl) ⟨e1, e2, HQ2.out.drew⟩ (fun hHeld => ?_)
        refine take_at (i := 0) (d := some 25) (v := .pointer (some ⟨r, 0, none⟩)) rfl rfl (by kernel_rfl) (by kernel_rfl) (by kernel_rfl) (fun _ _ _ h => h) (Or.inl ⟨by kernel_rfl, ?_⟩) hHeld ?_
        · intro w hSw; obtain ⟨s1, s2, s3⟩ := hSw; go_simp
        (try simp only [Act.put, List.setIfInBounds_toArray, List.set_cons_zero, List.set_cons_succ])
        refine take_at (i := 1) (d := some 26) (v := .pointer (some ⟨r, 0, none⟩)) rfl rfl (by kernel_rfl) (by kernel_rfl) (by kernel_rfl) (fun _ _ _ h => h) (Or.inl ⟨by kernel_rfl, ?_⟩) hHeld ?_
        · intro w hSw; obtain ⟨s1, s2, s3⟩ := hSw; go_simp
        (try simp only [Act.put, List.setIfInBounds_toArray, List.set_cons_zero, List.set_cons_succ])
        refine take_at (i := 2) (d := some 27) (v := .pointer (some ⟨r, 1, none⟩)) rfl rfl (by kernel_rfl) (by kernel_rfl) (by kernel_rfl) (fun _ _ _ h => h) (Or.inl ⟨by kernel_rfl, ?_⟩) hHeld ?_
        · intro w hSw; obtain ⟨s1, s2, s3⟩ := hSw; go_simp
        (try simp only [Act.put, List.setIfInBounds_toArray, List.set_cons_zero, List.set_cons_succ])
        refine take_at (i := 3) (d := some 28) (v := .slice (some ⟨b, 0, none⟩) s.last.length s.last.length) rfl rfl (by kernel_rfl) (by kernel_rfl) (by kernel_rfl) (fun _ _ _ h => h) (Or.inl ⟨by kernel_rfl, ?_⟩) hHeld ?_
        · intro w hSw; obtain ⟨s1, s2, s3⟩ := hSw; go_simp
        (try simp only [Act.put, List.setIfInBounds_toArray, List.set_cons_zero, List.set_cons_succ])
        refine take_at (i := 4) (d := some 29) (v := .int .i64 (k : Int)) rfl rfl (by kernel_rfl) (by kernel_rfl) (by kernel_rfl) (fun _ _ _ h => h) (Or.inl ⟨by kernel_rfl, ?_⟩) hHeld ?_
        · intro w hSw; obtain ⟨s1, s2, s3⟩ := hSw; go_simp
        (try simp only [Act.put, List.setIfInBounds_toArray, List.set_cons_zero, List.set_cons_succ])
        refine take_at (i := 5) (d := some 30) (v := .pointer (some ⟨r, 0, none⟩)) rfl rfl (by kernel_rfl) (by kernel_rfl) (by kernel_rfl) (fun _ _ _ h => h) (Or.inl ⟨by kernel_rfl, ?_⟩) hHeld ?_
        · intro w hSw; obtain ⟨s1, s2, s3⟩ := hSw; go_simp
        (try simp only [Act.put, List.setIfInBounds_toArray, List.set_cons_zero, List.set_cons_succ])
        refine take_at (i := 6) (d := some 31) (v := .pointer (some ⟨r, 0, none⟩)) rfl rfl (by kernel_rfl) (by kernel_rfl) (by kernel_rfl) (fun _ _ _ h => h) (Or.inl ⟨by kernel_rfl, ?_⟩) hHeld ?_
        · intro w hSw; obtain ⟨s1, s2, s3⟩ := hSw; go_simp
        (try simp only [Act.put, List.setIfInBounds_toArray, List.set_cons_zero, List.set_cons_succ])
        refine take_at (i := 7) (d := some 32) (v := .pointer (some ⟨r, 2, none⟩)) rfl rfl (by kernel_rfl) (by kernel_rfl) (by kernel_rfl) (fun _ _ _ h => h) (Or.inl ⟨by kernel_rfl, ?_⟩) hHeld ?_
        · intro w hSw; obtain ⟨s1, s2, s3⟩ := hSw; go_simp
        (try simp only [Act.put, List.setIfInBounds_toArray, List.set_cons_zero, List.set_cons_succ])
        refine take_at (i := 8) (d := some 33) (v := .slice (some ⟨c, 0, none⟩) s.last.length s.last.length) rfl rfl (by kernel_rfl) (by kernel_rfl) (by kernel_rfl) (fun _ _ _ h => h) (Or.inl ⟨by kernel_rfl, ?_⟩) hHeld ?_
        · intro w hSw; obtain ⟨s1, s2, s3⟩ := hSw; go_simp
        (try simp only [Act.put, List.setIfInBounds_toArray, List.set_cons_zero, List.set_cons_succ])
        refine take_at (i := 9) (d := some 34) (v := .int .i64 (k : Int)) rfl rfl (by kernel_rfl) (by kernel_rfl) (by kernel_rfl) (fun _ _ _ h => h) (Or.inl ⟨by kernel_rfl, ?_⟩) hHeld ?_
        · intro w hSw; obtain ⟨s1, s2, s3⟩ := hSw; go_simp
        (try simp only [Act.put, List.setIfInBounds_toArray, List.set_cons_zero, List.set_cons_succ])
        refine take_at (i := 10) (d := some 35) (v := pageV p) rfl rfl (by kernel_rfl) (by kernel_rfl) (by kernel_rfl) (fun _ _ _ h => h) (yields_page (by kernel_rfl) (.tmp 5) rfl rfl HP.out (fun _ hSw => hSw.2.2.range)) hHeld ?_
        (try simp only [Act.put, List.setIfInBounds_toArray, List.set_cons_zero, List.set_cons_succ])
        refine take_at (i := 11) (d := some 36) (v := .pointer (some ⟨b, k * 64, none⟩)) rfl rfl (by kernel_rfl) (by kernel_rfl) (by kernel_rfl) (fun _ _ _ h => h) (Or.inl ⟨by kernel_rfl, ?_⟩) hHeld ?_
        · intro w hSw; obtain ⟨s1, s2, s3⟩ := hSw; go_simp
        (try simp only [Act.put, List.setIfInBounds_toArray, List.set_cons_zero, List.set_cons_succ])
        refine anyH_store_row2 (i := 12) HNR.out k (by rw [HNEW.out.len, HLAST.out]; exact HK.out) HP.out (by kernel_rfl) rfl (by kernel_rfl) (.tmp 36) (.tmp 35) rfl rfl rfl none rfl (refKeep hHeld (heap_setCells_other b _ _ _ r HD2.out.rb) (heap_setCells_other b _ _ _ w.heap.size HBB.out)) (fun hHeld => ?_)
        (try simp only [Act.put])
        refine take_at (i := 13) (d := some 37) (v := .pointer (some ⟨c, k, none⟩)) rfl rfl (by kernel_rfl) (by kernel_rfl) (by kernel_rfl) (fun _ _ _ h => h) (Or.inl ⟨by kernel_rfl, ?_⟩) hHeld ?_
        · intro w hSw; obtain ⟨s1, s2, s3⟩ := hSw; go_simp
        (try simp only [Act.put, List.setIfInBounds_toArray, List.set_cons_zero, List.set_cons_succ])
        refine wpAnyH_ready (rs := [14]) (by kernel_rfl) (by simp) ?_
        refine AllReadyH.cons rfl (fun K hK => ?_) AllReadyH.nil
        go_simp
        refine hK.out _ _ (refKeep hHeld (Below.heap_setCell _ _ _ _ HD2.out.rc) (Below.heap_setCell _ _ _ _ HBC.out)) (fun hHeld => ?_)
        clear hK K
        (try simp only [Act.put])
        refine wpAnyH_done (by kernel_rfl) ?_ _
        refine NoPanic.normal ?_
        go_wp2
        go_ret
        exact ⟨rfl, HPUT.out, (Only.setCells b (by simp) _ _ _ HO2.out.drew).setCell (by simp) _⟩
      · have hW : Dk.write s (k : Int) p = Dk.spend s := by unfold Dk.write; rw [if_pos hre, if_neg e]
        have h5 : Dk.spendE s = 5 := by rcases Dk.spend_vals s with q | q <;> omega
        rw [hWE, hW, h5]
        have hde : decide (Dk.spendE s = 0) = false := decide_eq_false e
        rw [hde] at HS
        clear h hd hnd hh q0 hre hWE hW e hde h5
        generalize Dk.spend s = s1 at HS ⊢
        go_enter Tryz.func74, Tryz.ntmps74
        go_wp2_with fail
        refine HS.out.mono ?_
        rintro e w2 ⟨rfl, hd2, ho2⟩
        go_wp2
        go_ret
        exact ⟨rfl, hd2, HO.out.trans (ho2.mono (by simp))⟩
    · have hh' : Dk.hasB s.last.length i = false := by simpa using hh
      have HE : Hid (Dk.reachE s i = 22) := Lib.hid (by unfold Dk.reachE; rw [if_neg hnd, if_neg hh])
      have HW : Hid (Dk.writeE s i = 22 ∧ Dk.write s i p = s) := Lib.hid ⟨by unfold Dk.writeE; rw [HE.out, if_neg (by omega)], by unfold Dk.write; rw [HE.out, if_neg (by omega)]⟩
      have hno := Dk.has_no hh'
      rw [HW.out.1, HW.out.2]
      clear h hd hnd hh hh' HE HW
      by_cases t1 : i < 0
      · clear hno
        go_enter Tryz.func74, Tryz.ntmps74
        go_wp2
        go_ret
        exact ⟨rfl, HD.out, HO.out⟩
      · have t2 : (s.last.length : Int) ≤ i := by omega
        clear hno
        go_enter Tryz.func74, Tryz.ntmps74
        go_wp2
        go_ret
        exact ⟨rfl, HD.out, HO.out⟩
end Go.Proofs.YtppbiohjhnoagaaGreat

/-
  The contract of the reference's New.
-/
namespace Go.Proofs.YtppbiohjhnoagaaGreat
open Go.RowKit
open Dk (zeros zeros_length)

def boolRow (n : Nat) : Array Value := Array.replicate n (.bool false)
set_option maxRecDepth 100000 in
theorem info_bool : (Tryz.prog.info? 4).map (fun i => (i.zero, i.size, i.bytes)) = some (some (.bool false), 1, 1) := by kernel_rfl
set_option maxRecDepth 100000 in
theorem made_bools (n : Nat) : madeCells (Value.bool false).cells n = boolRow n := by
  apply Array.ext'
  unfold madeCells boolRow
  have hs : (Value.bool false).cells = #[.bool false] := rfl
  rw [hs, Array.toList_map, Array.toList_range, Array.toList_replicate]
  apply List.ext_getElem
  · simp
  · intro i h1 h2
    simp [Nat.mod_one]
set_option maxRecDepth 100000 in
theorem run_make_bools (w : World) (n : Nat) (hn : n ≤ 1000) : (Instr.makeSlice 61 (.int .i64 (n : Int)) (.int .i64 (n : Int))).run Tryz.prog w = .ok (.slice (some ⟨w.heap.size, 0, none⟩) n n) (w.alloc (.cells (boolRow n) 4)) := by
  obtain ⟨i, hi, hz, hs, hb⟩ := info_parts info_bool
  have := run_make (P := Tryz.prog) w 61 4 i (.bool false) Tryz.underlying61 hi hz .i64 .i64 (n : Int) (n : Int) (by omega) (by omega) (by rw [hb]; omega) (by omega)
  rw [hs, Int.toNat_natCast, Nat.mul_one, made_bools] at this
  exact this
set_option maxRecDepth 100000 in
theorem boolsAt_new (w : World) (n : Nat) (t : TypeId) : BoolsAt (w.alloc (.cells (boolRow n) t)) w.heap.size (List.replicate n false) where
  cell := fun i v hv => by
    rw [World.cell?_alloc_mark]
    rw [List.getElem?_replicate] at hv
    split at hv
    · rename_i hi
      unfold boolRow
      rw [Array.getElem?_replicate, if_pos hi]
      injection hv with hv
      rw [hv]
    · cases hv
  frozen := fun i _ => by rw [World.frozen?_alloc_mark]; simp
set_option maxRecDepth 100000 in
theorem RowsAt.alloc {w : World} {b : Nat} {ps : List (List UInt8)} (h : RowsAt w b ps) (hb : b < w.heap.size) (o : Obj) : RowsAt (w.alloc o) b ps := h.block (Below.heap_alloc _ _ _ hb)
set_option maxRecDepth 100000 in
theorem BoolsAt.alloc {w : World} {b : Nat} {bs : List Bool} (h : BoolsAt w b bs) (hb : b < w.heap.size) (o : Obj) : BoolsAt (w.alloc o) b bs := h.block (Below.heap_alloc _ _ _ hb)
def NewRef (w : World) (n : Nat) (e : Ending) (w' : World) : Prop := ∃ r a b c, e = .returned (.pointer (some ⟨r, 0, none⟩)) ∧ RefAt w' r a b c (Dk.fresh n) ∧ Below w.heap.size w w' ∧ w.heap.size ≤ r ∧ w.heap.size ≤ a ∧ w.heap.size ≤ b ∧ w.heap.size ≤ c
set_option maxRecDepth 100000 in
theorem ref_new (w W : World) (n a b c : Nat) (t : TypeId) (h1 : 1 ≤ n) (h2 : n ≤ 512) (ha : RowsAt W a (List.replicate n zeros)) (hb : RowsAt W b (List.replicate n zeros)) (hc : BoolsAt W c (List.replicate n false)) (ab : a ≠ b) (ac : a ≠ c) (bc : b ≠ c) (la : a < W.heap.size) (lb : b < W.heap.size) (lc : c < W.heap.size)
    (hbel : Below w.heap.size w W) (oa : w.heap.size ≤ a) (ob : w.heap.size ≤ b) (oc : w.heap.size ≤ c) {r : Nat} (hr : r = W.heap.size) :
    NewRef w n (.returned (.pointer (some ⟨r, 0, none⟩))) (W.alloc (.cells #[.slice (some ⟨a, 0, none⟩) n n, .slice (some ⟨b, 0, none⟩) n n, .slice (some ⟨c, 0, none⟩) n n, .int .i64 (-1), .bool false] t)) := by
  subst hr
  have hl : (Dk.fresh n).last.length = n := by unfold Dk.fresh; simp
  refine ⟨W.heap.size, a, b, c, rfl, ?_, hbel.alloc hbel.size _, hbel.size, oa, ob, oc⟩
  exact { ok := Dk.fresh_ok h1 h2, ra := by omega, rb := by omega, rc := by omega, ab := ab, ac := ac, bc := bc
          c0 := by rw [hl]; simp [go_sem]
          c1 := by rw [hl]; simp [go_sem]
          c2 := by rw [hl]; simp [go_sem]
          c3 := by simp [go_sem]; rfl
          c4 := by simp [go_sem]; rfl
          f3 := by simp [go_sem]
          f4 := by simp [go_sem]
          rows := ha.alloc la _
          new := ⟨List.replicate n zeros, hb.alloc lb _, by rw [hl]; simp, fun i p hp => by
            unfold Dk.cacheAt Dk.fresh at hp
            rw [List.getD_eq_getElem?_getD, List.getElem?_replicate] at hp
            split at hp <;> cases hp⟩
          on := by
            have : onOf (Dk.fresh n) = List.replicate n false := by unfold onOf Dk.fresh; simp
            rw [this]
            exact hc.alloc lc _ }
set_option maxRecDepth 100000 in
/-- two rows and a row of bools, made one behind the other, in each order -/
theorem three_new (w : World) (n : Nat) : 
    (RowsAt (((w.alloc (.cells (zeroRow n) 38)).alloc (.cells (zeroRow n) 38)).alloc (.cells (boolRow n) 4)) w.heap.size (List.replicate n zeros) ∧
     RowsAt (((w.alloc (.cells (zeroRow n) 38)).alloc (.cells (zeroRow n) 38)).alloc (.cells (boolRow n) 4)) (w.heap.size + 1) (List.replicate n zeros) ∧
     BoolsAt (((w.alloc (.cells (zeroRow n) 38)).alloc (.cells (zeroRow n) 38)).alloc (.cells (boolRow n) 4)) (w.heap.size + 1 + 1) (List.replicate n false)) ∧
    (RowsAt (((w.alloc (.cells (zeroRow n) 38)).alloc (.cells (boolRow n) 4)).alloc (.cells (zeroRow n) 38)) w.heap.size (List.replicate n zeros) ∧
     RowsAt (((w.alloc (.cells (zeroRow n) 38)).alloc (.cells (boolRow n) 4)).alloc (.cells (zeroRow n) 38)) (w.heap.size + 1 + 1) (List.replicate n zeros) ∧
     BoolsAt (((w.alloc (.cells (zeroRow n) 38)).alloc (.cells (boolRow n) 4)).alloc (.cells (zeroRow n) 38)) (w.heap.size + 1) (List.replicate n false)) ∧
    (RowsAt (((w.alloc (.cells (boolRow n) 4)).alloc (.cells (zeroRow n) 38)).alloc (.cells (zeroRow n) 38)) (w.heap.size + 1) (List.replicate n zeros) ∧
     RowsAt (((w.alloc (.cells (boolRow n) 4)).alloc (.cells (zeroRow n) 38)).alloc (.cells (zeroRow n) 38)) (w.heap.size + 1 + 1) (List.replicate n zeros) ∧
     BoolsAt (((w.alloc (.cells (boolRow n) 4)).alloc (.cells (zeroRow n) 38)).alloc (.cells (zeroRow n) 38)) w.heap.size (List.replicate n false)) := by
  have r := fun (v : World) => rowsAt_new v n 38
  have b := fun (v : World) => boolsAt_new v n 4
  refine ⟨⟨((r w).alloc (by simp) _).alloc (by simp; omega) _, ?_, ?_⟩, ⟨((r w).alloc (by simp) _).alloc (by simp; omega) _, ?_, ?_⟩, ?_, ?_, ((b w).alloc (by simp) _).alloc (by simp; omega) _⟩
  · have := (r (w.alloc (.cells (zeroRow n) 38))).alloc (by simp) (.cells (boolRow n) 4)
    simpa using this
  · have := b ((w.alloc (.cells (zeroRow n) 38)).alloc (.cells (zeroRow n) 38))
    simpa using this
  · have := r ((w.alloc (.cells (zeroRow n) 38)).alloc (.cells (boolRow n) 4))
    simpa using this
  · have := (b (w.alloc (.cells (zeroRow n) 38))).alloc (by simp) (.cells (zeroRow n) 38)
    simpa using this
  · have := (r (w.alloc (.cells (boolRow n) 4))).alloc (by simp) (.cells (zeroRow n) 38)
    simpa using this
  · have := r ((w.alloc (.cells (boolRow n) 4)).alloc (.cells (zeroRow n) 38))
    simpa using this
set_option maxRecDepth 100000 in
theorem three_below (w : World) (o1 o2 o3 : Obj) : Below w.heap.size w (((w.drew.alloc o1).alloc o2).alloc o3) := (((Below.refl _ _).drew.alloc (Nat.le_refl _) _).alloc (by simp) _).alloc (by simp; omega) _
set_option maxRecDepth 100000 in
theorem rnew_no (n : Int) (w : World) (h : n < 1 ∨ 512 < n) : Calls Tryz.prog 7 #[.int .i64 n] w fun e w' => e = .returned (.pointer none) ∧ w = w' := by
  by_cases h1 : n < 1
  · clear h
    go_enter Tryz.func7, Tryz.ntmps7
    go_wp2
    go_ret
    exact ⟨rfl, rfl⟩
  · have h2 : 512 < n := by omega
    clear h
    go_enter Tryz.func7, Tryz.ntmps7
    go_wp2
    go_ret
    exact ⟨rfl, rfl⟩
set_option maxRecDepth 100000 in
set_option maxHeartbeats 2000000 in
theorem rnew_any (n : Nat) (w : World) (h1 : 1 ≤ n) (h2 : n ≤ 512) : Calls Tryz.prog 7 #[.int .i64 (n : Int)] w (NewRef w n) := by
  have hmk := fun (W : World) => run_make_pages W n (by omega)
  have hmb := fun (W : World) => run_make_bools W n (by omega)
  have k1 : ¬ (n : Int) < 1 := by omega
  have k2 : ¬ (512 : Int) < (n : Int) := by omega
  go_enter Tryz.func7, Tryz.ntmps7
  go_wp2_with fail
  go_region
  all_goals go_wp2
  all_goals go_ret
  all_goals clear hmk hmb
  · exact ref_new w _ n _ _ _ _ h1 h2 (three_new w.drew n).1.1 (three_new w.drew n).1.2.1 (three_new w.drew n).1.2.2 (by first | (simp; done) | (simp; omega)) (by first | (simp; done) | (simp; omega)) (by first | (simp; done) | (simp; omega)) (by first | (simp; done) | (simp; omega)) (by first | (simp; done) | (simp; omega)) (by first | (simp; done) | (simp; omega)) (three_below w _ _ _) (by first | (simp; done) | (simp; omega)) (by first | (simp; done) | (simp; omega)) (by first | (simp; done) | (simp; omega)) (by first | (simp; done) | (simp; omega))
  · exact ref_new w _ n _ _ _ _ h1 h2 (three_new w.drew n).2.1.1 (three_new w.drew n).2.1.2.1 (three_new w.drew n).2.1.2.2 (by first | (simp; done) | (simp; omega)) (by first | (simp; done) | (simp; omega)) (by first | (simp; done) | (simp; omega)) (by first | (simp; done) | (simp; omega)) (by first | (simp; done) | (simp; omega)) (by first | (simp; done) | (simp; omega)) (three_below w _ _ _) (by first | (simp; done) | (simp; omega)) (by first | (simp; done) | (simp; omega)) (by first | (simp; done) | (simp; omega)) (by first | (simp; done) | (simp; omega))
  · exact ref_new w _ n _ _ _ _ h1 h2 (three_new w.drew n).1.2.1 (three_new w.drew n).1.1 (three_new w.drew n).1.2.2 (by first | (simp; done) | (simp; omega)) (by first | (simp; done) | (simp; omega)) (by first | (simp; done) | (simp; omega)) (by first | (simp; done) | (simp; omega)) (by first | (simp; done) | (simp; omega)) (by first | (simp; done) | (simp; omega)) (three_below w _ _ _) (by first | (simp; done) | (simp; omega)) (by first | (simp; done) | (simp; omega)) (by first | (simp; done) | (simp; omega)) (by first | (simp; done) | (simp; omega))
  · exact ref_new w _ n _ _ _ _ h1 h2 (three_new w.drew n).2.1.2.1 (three_new w.drew n).2.1.1 (three_new w.drew n).2.1.2.2 (by first | (simp; done) | (simp; omega)) (by first | (simp; done) | (simp; omega)) (by first | (simp; done) | (simp; omega)) (by first | (simp; done) | (simp; omega)) (by first | (simp; done) | (simp; omega)) (by first | (simp; done) | (simp; omega)) (three_below w _ _ _) (by first | (simp; done) | (simp; omega)) (by first | (simp; done) | (simp; omega)) (by first | (simp; done) | (simp; omega)) (by first | (simp; done) | (simp; omega))
  · exact ref_new w _ n _ _ _ _ h1 h2 (three_new w.drew n).2.2.1 (three_new w.drew n).2.2.2.1 (three_new w.drew n).2.2.2.2 (by first | (simp; done) | (simp; omega)) (by first | (simp; done) | (simp; omega)) (by first | (simp; done) | (simp; omega)) (by first | (simp; done) | (simp; omega)) (by first | (simp; done) | (simp; omega)) (by first | (simp; done) | (simp; omega)) (three_below w _ _ _) (by first | (simp; done) | (simp; omega)) (by first | (simp; done) | (simp; omega)) (by first | (simp; done) | (simp; omega)) (by first | (simp; done) | (simp; omega))
  · exact ref_new w _ n _ _ _ _ h1 h2 (three_new w.drew n).2.2.2.1 (three_new w.drew n).2.2.1 (three_new w.drew n).2.2.2.2 (by first | (simp; done) | (simp; omega)) (by first | (simp; done) | (simp; omega)) (by first | (simp; done) | (simp; omega)) (by first | (simp; done) | (simp; omega)) (by first | (simp; done) | (simp; omega)) (by first | (simp; done) | (simp; omega)) (three_below w _ _ _) (by first | (simp; done) | (simp; omega)) (by first | (simp; done) | (simp; omega)) (by first | (simp; done) | (simp; omega)) (by first | (simp; done) | (simp; omega))
end Go.Proofs.YtppbiohjhnoagaaGreat

/-
  The contract of the reference's Flush.
-/
namespace Go.Proofs.YtppbiohjhnoagaaGreat
open Go.RowKit
open Dk (zeros zeros_length)

/-! ### a list that is turned from its head on -/
def upto {α : Type} (n k : Nat) (f g : Nat → α) : List α := (List.range n).map fun i => if i < k then f i else g i
set_option maxRecDepth 100000 in
theorem upto_length {α : Type} (n k : Nat) (f g : Nat → α) : (upto n k f g).length = n := by unfold upto; simp
set_option maxRecDepth 100000 in
theorem upto_at {α : Type} (n k : Nat) (f g : Nat → α) (i : Nat) (hi : i < n) : (upto n k f g)[i]? = some (if i < k then f i else g i) := by
  unfold upto
  rw [List.getElem?_map, List.getElem?_range hi]; rfl
set_option maxRecDepth 100000 in
theorem upto_succ {α : Type} (n k : Nat) (f g : Nat → α) (hk : k < n) : upto n (k + 1) f g = (upto n k f g).set k (f k) := by
  apply List.ext_getElem?
  intro i
  rw [List.getElem?_set]
  by_cases hi : i < n
  · rw [upto_at _ _ _ _ i hi]
    by_cases e : k = i
    · subst e
      rw [if_pos (show k < k + 1 by omega), if_pos rfl, if_pos (by rw [upto_length]; exact hk)]
    · rw [if_neg e, upto_at _ _ _ _ i hi]
      by_cases h : i < k
      · rw [if_pos h, if_pos (by omega)]
      · rw [if_neg h, if_neg (by omega)]
  · rw [List.getElem?_eq_none (by rw [upto_length]; omega), if_neg (by omega), List.getElem?_eq_none (by rw [upto_length]; omega)]
set_option maxRecDepth 100000 in
theorem upto_same {α : Type} (n k : Nat) (f g : Nat → α) (h : f k = g k) : upto n (k + 1) f g = upto n k f g := by
  unfold upto
  apply List.map_congr_left
  intro i _
  by_cases e : i < k
  · rw [if_pos e, if_pos (by omega)]
  · by_cases e2 : i = k
    · subst e2
      rw [if_pos (by omega), if_neg (by omega), h]
    · rw [if_neg e, if_neg (by omega)]
set_option maxRecDepth 100000 in
theorem upto_zero {α : Type} (n : Nat) (f g : Nat → α) (l : List α) (hl : l.length = n) (hg : ∀ i, i < n → l[i]? = some (g i)) : upto n 0 f g = l := by
  apply List.ext_getElem?
  intro i
  by_cases hi : i < n
  · rw [upto_at _ _ _ _ i hi, if_neg (by omega), hg i hi]
  · rw [List.getElem?_eq_none (by rw [upto_length]; omega), List.getElem?_eq_none (by omega)]
set_option maxRecDepth 100000 in
theorem upto_all {α : Type} (n : Nat) (f g : Nat → α) : upto n n f g = (List.range n).map f := by
  unfold upto
  apply List.map_congr_left
  intro i hi
  rw [if_pos (List.mem_range.1 hi)]
set_option maxRecDepth 100000 in
theorem last_at {s : Dk.St} {i : Nat} (hi : i < s.last.length) : s.last[i]? = some (Dk.lastAt s i) := by unfold Dk.lastAt; rw [List.getD_eq_getElem?_getD, List.getElem?_eq_getElem hi]; rfl
set_option maxRecDepth 100000 in
theorem cache_at {s : Dk.St} (h : s.Ok) {i : Nat} (hi : i < s.last.length) : s.cache[i]? = some (Dk.cacheAt s i) := by unfold Dk.cacheAt; rw [List.getD_eq_getElem?_getD, List.getElem?_eq_getElem (by rw [h.same]; exact hi)]; rfl

/-- a flush, page by page -/
def flushTo (s : Dk.St) (k : Nat) : Dk.St := { s with last := upto s.last.length k (Dk.nowAt s) (Dk.lastAt s), cache := upto s.last.length k (fun _ => none) (Dk.cacheAt s) }
set_option maxRecDepth 100000 in
theorem flushTo_zero {s : Dk.St} (h : s.Ok) : flushTo s 0 = s := by
  unfold flushTo
  rw [upto_zero _ _ _ s.last rfl (fun i hi => last_at hi), upto_zero _ _ _ s.cache h.same (fun i hi => cache_at h hi)]
set_option maxRecDepth 100000 in
theorem flushTo_end (s : Dk.St) : flushTo s s.last.length = Dk.flushed s := by
  unfold flushTo Dk.flushed
  have e : (List.range s.last.length).map (fun _ => (none : Option (List UInt8))) = List.replicate s.last.length none := by simp [List.map_const']
  rw [upto_all, upto_all, e]
set_option maxRecDepth 100000 in
theorem flushTo_len (s : Dk.St) (k : Nat) : (flushTo s k).last.length = s.last.length := upto_length _ _ _ _
set_option maxRecDepth 100000 in
theorem flushTo_clen (s : Dk.St) (k : Nat) : (flushTo s k).cache.length = s.last.length := upto_length _ _ _ _
set_option maxRecDepth 100000 in
theorem flushTo_cache {s : Dk.St} {k : Nat} (hk : k < s.last.length) : Dk.cacheAt (flushTo s k) k = Dk.cacheAt s k := by
  show (upto s.last.length k (fun _ => none) (Dk.cacheAt s)).getD k none = _
  rw [List.getD_eq_getElem?_getD, upto_at _ _ _ _ k hk, if_neg (by omega)]; rfl
set_option maxRecDepth 100000 in
theorem flushTo_none {s : Dk.St} {k : Nat} (h : Dk.cacheAt s k = none) : flushTo s (k + 1) = flushTo s k := by
  unfold flushTo
  rw [upto_same _ _ _ _ (by unfold Dk.nowAt; rw [h]; rfl), upto_same s.last.length k (fun _ => none) (Dk.cacheAt s) h.symm]
set_option maxRecDepth 100000 in
theorem flushTo_some {s : Dk.St} {k : Nat} {p : List UInt8} (hk : k < s.last.length) (h : Dk.cacheAt s k = some p) : flushTo s (k + 1) = { flushTo s k with last := (flushTo s k).last.set k p, cache := (flushTo s k).cache.set k none } := by
  unfold flushTo
  rw [upto_succ _ _ _ _ hk, upto_succ s.last.length k (fun _ => none) (Dk.cacheAt s) hk]
  have : Dk.nowAt s k = p := by unfold Dk.nowAt; rw [h]; rfl
  rw [this]
set_option maxRecDepth 100000 in
theorem fKeep {W W' : World} {r b o : Nat} {v u x : Value} {vs : List Value} (h : W.cell? ⟨r, 0, none⟩ = some v ∧ W.cell? ⟨r, 1, none⟩ = some u ∧ W.cell? ⟨r, 2, none⟩ = some x ∧ W.rangeAt b o vs) (h1 : W'.heap[r]? = W.heap[r]?) (h2 : W'.heap[b]? = W.heap[b]?) :
    W'.cell? ⟨r, 0, none⟩ = some v ∧ W'.cell? ⟨r, 1, none⟩ = some u ∧ W'.cell? ⟨r, 2, none⟩ = some x ∧ W'.rangeAt b o vs :=
  ⟨(World.cell?_of_block (w := W) (a := ⟨r, 0, none⟩) h1).trans h.1, (World.cell?_of_block (w := W) (a := ⟨r, 1, none⟩) h1).trans h.2.1, (World.cell?_of_block (w := W) (a := ⟨r, 2, none⟩) h1).trans h.2.2.1, rangeAt_block h.2.2.2 h2⟩
set_option maxRecDepth 100000 in
set_option maxHeartbeats 4000000 in
theorem rflush_any {w : World} {r a b c : Nat} {s : Dk.St} (h : RefAt w r a b c s) : Calls Tryz.prog 75 #[.pointer (some ⟨r, 0, none⟩)] w fun e w' =>
    e = .returned (.int .i64 (Dk.flushE s)) ∧ RefAt w' r a b c (Dk.flush s) ∧ Only [r, a, b, c] w w' := by
  have HD := Lib.hid h
  have HS := Lib.hid (rstep_any h)
  have c4 := h.c4
  cases hdn : s.down with
  | true =>
    have HE : Hid (Dk.flushE s = 5) := Lib.hid (by unfold Dk.flushE; rw [if_pos hdn])
    have HF : Hid (Dk.flush s = s) := Lib.hid (by unfold Dk.flush; rw [if_pos hdn])
    rw [HE.out, HF.out]
    rw [hdn] at c4
    clear h hdn
    go_enter Tryz.func75, Tryz.ntmps75
    go_wp2
    go_ret
    exact ⟨rfl, HD.out, Only.refl _ _⟩
  | false =>
    rw [hdn] at c4
    have hnd : ¬ s.down = true := by rw [hdn]; simp
    have HE : Hid (Dk.flushE s = Dk.spendE s) := Lib.hid (by unfold Dk.flushE; rw [if_neg hnd])
    by_cases e0 : Dk.spendE s = 0
    · have HF : Hid (Dk.flush s = Dk.flushed (Dk.spend s)) := Lib.hid (by unfold Dk.flush; rw [if_neg hnd, if_pos e0])
      have hde : decide (Dk.spendE s = 0) = true := decide_eq_true e0
      rw [HE.out, HF.out, e0]
      rw [hde] at HS
      clear h hdn hnd e0 HE HF hde
      generalize Dk.spend s = s1 at HS ⊢
      go_enter Tryz.func75, Tryz.ntmps75
      go_wp2_with fail
      refine HS.out.mono ?_
      rintro e w1 ⟨rfl, hd1, ho1⟩
      have HD1 := Lib.hid hd1
      have HO1 : Hid (Only [r, a, b, c] w w1) := Lib.hid (ho1.mono (by simp))
      have hsm := hd1.ok.small
      clear HS HD c4 hd1 ho1
      go_wp2_with fail
      go_loopw [3] (fun i wr => ∃ k : Nat, k ≤ s1.last.length ∧ i = .int .i64 k ∧ RefAt wr r a b c (flushTo s1 k) ∧ Only [r, a, b, c] w wr) (fun i _ => s1.last.length - (intOf i).toNat)
      case atStart => exact ⟨0, Nat.zero_le _, rfl, by rw [flushTo_zero HD1.out.ok]; exact HD1.out, HO1.out⟩
      case round =>
        obtain ⟨k, hk, rfl, hrk, hok⟩ := hrel
        have HRK := Lib.hid hrk
        have HOK := Lib.hid hok
        have e0 := hrk.c0
        have e1 := hrk.c1
        have e2 := hrk.c2
        rw [flushTo_len] at e0 e1 e2
        by_cases hlt : k < s1.last.length
        · have hk0 : (0 : Int) ≤ (k : Int) := by omega
          have hk1 : (k : Int) < (s1.last.length : Int) := by omega
          have hon := hrk.on.at k (by rw [hrk.n, flushTo_len]; exact hlt)
          have hfr := hrk.on.frozen k (by rw [hrk.n, flushTo_len]; exact hlt)
          rw [onOf_at _ k (by rw [flushTo_clen]; exact hlt), flushTo_cache hlt] at hon
          clear hrk hok
          cases hca : Dk.cacheAt s1 k with
          | none =>
            rw [hca] at hon
            simp only [Option.isSome_none] at hon
            have HN := Lib.hid (flushTo_none hca)
            clear hca
            go_wp2
            go_roundw
            case rel => exact ⟨k + 1, by omega, by go_num, by rw [HN.out]; exact HRK.out, HOK.out⟩
            case measure => simp [intOf]; omega
          | some p =>
            rw [hca] at hon
            simp only [Option.isSome_some] at hon
            have HPL := Lib.hid (Dk.cacheAt_len HD1.out.ok hca)
            have HST := Lib.hid (flushTo_some hlt hca)
            have HKL : Hid (k < (flushTo s1 k).last.length) := Lib.hid (by rw [flushTo_len]; exact hlt)
            have HPR : Hid (wr.drew.rangeAt b (k * 64) (byteVals p)) := Lib.hid (by
              obtain ⟨new, hnew⟩ := HRK.out.new
              exact hnew.rows.range k p (hnew.held k p (by rw [flushTo_cache hlt]; exact hca)))
            have HRW := Lib.hid (HRK.out.drew.rows)
            have HEND := Lib.hid (HRK.out.drew.settle k HKL.out HPL.out (w' := wr.drew.setCells a (k * 64) (byteVals p)) (heap_setCells_other a _ _ _ r HRK.out.ra) (heap_setCells_other a _ _ _ b (Ne.symm HRK.out.ab)) (heap_setCells_other a _ _ _ c (Ne.symm HRK.out.ac)) (HRW.out.put k HKL.out p HPL.out))
            have g2 : (wr.drew.setCells a (k * 64) (byteVals p)).cell? ⟨c, k, none⟩ = some (.bool true) := (World.cell?_of_block (w := wr) (a := ⟨c, k, none⟩) (heap_setCells_other a _ _ wr.drew c (Ne.symm HRK.out.ac))).trans hon
            have g3 : (wr.drew.setCells a (k * 64) (byteVals p)).frozen? ⟨c, k, none⟩ = false := (World.frozen?_of_block (w := wr) (a := ⟨c, k, none⟩) (heap_setCells_other a _ _ wr.drew c (Ne.symm HRK.out.ac))).trans hfr
            clear hca
            go_wp2_with fail
            refine wp_region_noPanic ?_
            refine wp_region_held_drew (S := fun W => W.cell? ⟨r, 0, none⟩ = some (.slice (some ⟨a, 0, none⟩) s1.last.length s1.last.length) ∧ W.cell? ⟨r, 1, none⟩ = some (.slice (some ⟨b, 0, none⟩) s1.last.length s1.last.length) ∧ W.cell? ⟨r, 2, none⟩ = some (.slice (some ⟨c, 0, none⟩) s1.last.length s1.last.length) ∧ W.rangeAt b (k * 64) (byteVals p)) (by kernel_rfl) ⟨e0, e1, e2, HPR.out⟩ (fun hHeld => ?_)
            refine take_at (i := 0) (d := some 29) (v := .pointer (some ⟨r, 0, none⟩)) rfl rfl (by kernel_rfl) (by kernel_rfl) (by kernel_rfl) (fun _ _ _ h => h) (Or.inl ⟨by kernel_rfl, ?_⟩) hHeld ?_
            · intro w hSw; obtain ⟨s0, s1', s2, s3⟩ := hSw; go_simp
            (try simp only [Act.put, List.setIfInBounds_toArray, List.set_cons_zero, List.set_cons_succ])
            refine take_at (i := 1) (d := some 30) (v := .pointer (some ⟨r, 0, none⟩)) rfl rfl (by kernel_rfl) (by kernel_rfl) (by kernel_rfl) (fun _ _ _ h => h) (Or.inl ⟨by kernel_rfl, ?_⟩) hHeld ?_
            · intro w hSw; obtain ⟨s0, s1', s2, s3⟩ := hSw; go_simp
            (try simp only [Act.put, List.setIfInBounds_toArray, List.set_cons_zero, List.set_cons_succ])
            refine take_at (i := 2) (d := some 31) (v := .pointer (some ⟨r, 0, none⟩)) rfl rfl (by kernel_rfl) (by kernel_rfl) (by kernel_rfl) (fun _ _ _ h => h) (Or.inl ⟨by kernel_rfl, ?_⟩) hHeld ?_
            · intro w hSw; obtain ⟨s0, s1', s2, s3⟩ := hSw; go_simp
            (try simp only [Act.put, List.setIfInBounds_toArray, List.set_cons_zero, List.set_cons_succ])
            refine take_at (i := 3) (d := some 32) (v := .slice (some ⟨a, 0, none⟩) s1.last.length s1.last.length) rfl rfl (by kernel_rfl) (by kernel_rfl) (by kernel_rfl) (fun _ _ _ h => h) (Or.inl ⟨by kernel_rfl, ?_⟩) hHeld ?_
            · intro w hSw; obtain ⟨s0, s1', s2, s3⟩ := hSw; go_simp
            (try simp only [Act.put, List.setIfInBounds_toArray, List.set_cons_zero, List.set_cons_succ])
            refine take_at (i := 4) (d := some 33) (v := .int .i64 (k : Int)) rfl rfl (by kernel_rfl) (by kernel_rfl) (by kernel_rfl) (fun _ _ _ h => h) (Or.inl ⟨by kernel_rfl, ?_⟩) hHeld ?_
            · intro w hSw; obtain ⟨s0, s1', s2, s3⟩ := hSw; go_simp
            (try simp only [Act.put, List.setIfInBounds_toArray, List.set_cons_zero, List.set_cons_succ])
            refine take_at (i := 5) (d := some 34) (v := .pointer (some ⟨r, 0, none⟩)) rfl rfl (by kernel_rfl) (by kernel_rfl) (by kernel_rfl) (fun _ _ _ h => h) (Or.inl ⟨by kernel_rfl, ?_⟩) hHeld ?_
            · intro w hSw; obtain ⟨s0, s1', s2, s3⟩ := hSw; go_simp
            (try simp only [Act.put, List.setIfInBounds_toArray, List.set_cons_zero, List.set_cons_succ])
            refine take_at (i := 6) (d := some 35) (v := .pointer (some ⟨r, 0, none⟩)) rfl rfl (by kernel_rfl) (by kernel_rfl) (by kernel_rfl) (fun _ _ _ h => h) (Or.inl ⟨by kernel_rfl, ?_⟩) hHeld ?_
            · intro w hSw; obtain ⟨s0, s1', s2, s3⟩ := hSw; go_simp
            (try simp only [Act.put, List.setIfInBounds_toArray, List.set_cons_zero, List.set_cons_succ])
            refine take_at (i := 7) (d := some 36) (v := .pointer (some ⟨r, 2, none⟩)) rfl rfl (by kernel_rfl) (by kernel_rfl) (by kernel_rfl) (fun _ _ _ h => h) (Or.inl ⟨by kernel_rfl, ?_⟩) hHeld ?_
            · intro w hSw; obtain ⟨s0, s1', s2, s3⟩ := hSw; go_simp
            (try simp only [Act.put, List.setIfInBounds_toArray, List.set_cons_zero, List.set_cons_succ])
            refine take_at (i := 8) (d := some 37) (v := .slice (some ⟨c, 0, none⟩) s1.last.length s1.last.length) rfl rfl (by kernel_rfl) (by kernel_rfl) (by kernel_rfl) (fun _ _ _ h => h) (Or.inl ⟨by kernel_rfl, ?_⟩) hHeld ?_
            · intro w hSw; obtain ⟨s0, s1', s2, s3⟩ := hSw; go_simp
            (try simp only [Act.put, List.setIfInBounds_toArray, List.set_cons_zero, List.set_cons_succ])
            refine take_at (i := 9) (d := some 38) (v := .int .i64 (k : Int)) rfl rfl (by kernel_rfl) (by kernel_rfl) (by kernel_rfl) (fun _ _ _ h => h) (Or.inl ⟨by kernel_rfl, ?_⟩) hHeld ?_
            · intro w hSw; obtain ⟨s0, s1', s2, s3⟩ := hSw; go_simp
            (try simp only [Act.put, List.setIfInBounds_toArray, List.set_cons_zero, List.set_cons_succ])
            refine take_at (i := 10) (d := some 39) (v := .pointer (some ⟨r, 0, none⟩)) rfl rfl (by kernel_rfl) (by kernel_rfl) (by kernel_rfl) (fun _ _ _ h => h) (Or.inl ⟨by kernel_rfl, ?_⟩) hHeld ?_
            · intro w hSw; obtain ⟨s0, s1', s2, s3⟩ := hSw; go_simp
            (try simp only [Act.put, List.setIfInBounds_toArray, List.set_cons_zero, List.set_cons_succ])
            refine take_at (i := 11) (d := some 40) (v := .pointer (some ⟨r, 0, none⟩)) rfl rfl (by kernel_rfl) (by kernel_rfl) (by kernel_rfl) (fun _ _ _ h => h) (Or.inl ⟨by kernel_rfl, ?_⟩) hHeld ?_
            · intro w hSw; obtain ⟨s0, s1', s2, s3⟩ := hSw; go_simp
            (try simp only [Act.put, List.setIfInBounds_toArray, List.set_cons_zero, List.set_cons_succ])
            refine take_at (i := 12) (d := some 41) (v := .pointer (some ⟨r, 1, none⟩)) rfl rfl (by kernel_rfl) (by kernel_rfl) (by kernel_rfl) (fun _ _ _ h => h) (Or.inl ⟨by kernel_rfl, ?_⟩) hHeld ?_
            · intro w hSw; obtain ⟨s0, s1', s2, s3⟩ := hSw; go_simp
            (try simp only [Act.put, List.setIfInBounds_toArray, List.set_cons_zero, List.set_cons_succ])
            refine take_at (i := 13) (d := some 42) (v := .slice (some ⟨b, 0, none⟩) s1.last.length s1.last.length) rfl rfl (by kernel_rfl) (by kernel_rfl) (by kernel_rfl) (fun _ _ _ h => h) (Or.inl ⟨by kernel_rfl, ?_⟩) hHeld ?_
            · intro w hSw; obtain ⟨s0, s1', s2, s3⟩ := hSw; go_simp
            (try simp only [Act.put, List.setIfInBounds_toArray, List.set_cons_zero, List.set_cons_succ])
            refine take_at (i := 14) (d := some 43) (v := .int .i64 (k : Int)) rfl rfl (by kernel_rfl) (by kernel_rfl) (by kernel_rfl) (fun _ _ _ h => h) (Or.inl ⟨by kernel_rfl, ?_⟩) hHeld ?_
            · intro w hSw; obtain ⟨s0, s1', s2, s3⟩ := hSw; go_simp
            (try simp only [Act.put, List.setIfInBounds_toArray, List.set_cons_zero, List.set_cons_succ])
            refine take_at (i := 15) (d := some 44) (v := .pointer (some ⟨b, k * 64, none⟩)) rfl rfl (by kernel_rfl) (by kernel_rfl) (by kernel_rfl) (fun _ _ _ h => h) (Or.inl ⟨by kernel_rfl, ?_⟩) hHeld ?_
            · intro w hSw; obtain ⟨s0, s1', s2, s3⟩ := hSw; go_simp
            (try simp only [Act.put, List.setIfInBounds_toArray, List.set_cons_zero, List.set_cons_succ])
            refine take_at (i := 16) (d := some 45) (v := pageV p) rfl rfl (by kernel_rfl) (by kernel_rfl) (by kernel_rfl) (fun _ _ _ h => h) (yields_page (by kernel_rfl) (.tmp 44) rfl rfl HPL.out (fun _ hSw => hSw.2.2.2)) hHeld ?_
            (try simp only [Act.put, List.setIfInBounds_toArray, List.set_cons_zero, List.set_cons_succ])
            refine take_at (i := 17) (d := some 46) (v := .pointer (some ⟨a, k * 64, none⟩)) rfl rfl (by kernel_rfl) (by kernel_rfl) (by kernel_rfl) (fun _ _ _ h => h) (Or.inl ⟨by kernel_rfl, ?_⟩) hHeld ?_
            · intro w hSw; obtain ⟨s0, s1', s2, s3⟩ := hSw; go_simp
            (try simp only [Act.put, List.setIfInBounds_toArray, List.set_cons_zero, List.set_cons_succ])
            refine anyH_store_row2 (i := 18) HRW.out k HKL.out HPL.out (by kernel_rfl) rfl (by kernel_rfl) (.tmp 46) (.tmp 45) rfl rfl rfl none rfl (fKeep hHeld (heap_setCells_other a _ _ _ r HRK.out.ra) (heap_setCells_other a _ _ _ b (Ne.symm HRK.out.ab))) (fun hHeld => ?_)
            (try simp only [Act.put])
            refine take_at (i := 19) (d := some 47) (v := .pointer (some ⟨c, k, none⟩)) rfl rfl (by kernel_rfl) (by kernel_rfl) (by kernel_rfl) (fun _ _ _ h => h) (Or.inl ⟨by kernel_rfl, ?_⟩) hHeld ?_
            · intro w hSw; obtain ⟨s0, s1', s2, s3⟩ := hSw; go_simp
            (try simp only [Act.put, List.setIfInBounds_toArray, List.set_cons_zero, List.set_cons_succ])
            refine wpAnyH_ready (rs := [20]) (by kernel_rfl) (by simp) ?_
            refine AllReadyH.cons rfl (fun K hK => ?_) AllReadyH.nil
            go_simp
            refine hK.out _ _ (fKeep hHeld (Below.heap_setCell _ _ _ _ HRK.out.rc) (Below.heap_setCell _ _ _ _ HRK.out.bc)) (fun hHeld => ?_)
            clear hK K
            (try simp only [Act.put])
            refine wpAnyH_done (by kernel_rfl) ?_ _
            refine NoPanic.normal ?_
            go_wp2
            go_roundw
            case rel => exact ⟨k + 1, by omega, by go_num, by rw [HST.out]; exact HEND.out, (Only.setCells a (by simp) _ _ _ HOK.out.drew).setCell (by simp) _⟩
            case measure => simp [intOf]; omega
        · obtain rfl : k = s1.last.length := by omega
          rw [flushTo_end] at HRK
          clear hrk hok
          go_wp2
          go_ret
          exact ⟨rfl, HRK.out, HOK.out⟩
    · have HF : Hid (Dk.flush s = Dk.spend s) := Lib.hid (by unfold Dk.flush; rw [if_neg hnd, if_neg e0])
      have hde : decide (Dk.spendE s = 0) = false := decide_eq_false e0
      have h5 : Dk.spendE s = 5 := by rcases Dk.spend_vals s with q | q <;> omega
      rw [HE.out, HF.out, h5]
      rw [hde] at HS
      clear h hdn hnd e0 HE HF hde h5
      generalize Dk.spend s = s1 at HS ⊢
      go_enter Tryz.func75, Tryz.ntmps75
      go_wp2_with fail
      refine HS.out.mono ?_
      rintro e w1 ⟨rfl, hd1, ho1⟩
      go_wp2
      go_ret
      exact ⟨rfl, hd1, ho1.mono (by simp)⟩
end Go.Proofs.YtppbiohjhnoagaaGreat

/-
  The reference's Crash: what it makes, page by page, byte by byte.
-/
namespace Go.Proofs.YtppbiohjhnoagaaGreat
open Go.RowKit
open Dk (zeros zeros_length)

/-! ### one byte of a row -/
set_option maxRecDepth 100000 in
theorem RowsAt.setByte {w : World} {b : Nat} {ps : List (List UInt8)} (h : RowsAt w b ps) {i : Nat} {q : List UInt8} (hi : ps[i]? = some q) {t : Nat} (ht : t < 64) (x : UInt8) : RowsAt (w.setCell ⟨b, i * 64 + t, none⟩ (.int .u8 (x.toNat : Int))) b (ps.set i (q.set t x)) := by
  have hil : i < ps.length := (List.getElem?_eq_some_iff.1 hi).1
  have hql : q.length = 64 := h.size q (List.mem_of_getElem? hi)
  have hth := h.thereAt i hil
  refine ⟨?_, ?_, ?_⟩
  · intro p hp
    rcases List.mem_or_eq_of_mem_set hp with h1 | h1
    · exact h.size p h1
    · rw [h1, List.length_set]; exact hql
  · intro j p hp u v hv
    rw [List.getElem?_set] at hp
    by_cases e : i = j
    · subst e
      rw [if_pos rfl, if_pos hil] at hp
      injection hp with hp
      subst hp
      rw [← byteVals_set, List.getElem?_set] at hv
      by_cases f : t = u
      · subst f
        rw [if_pos rfl, if_pos (by rw [byteVals_length, hql]; exact ht)] at hv
        injection hv with hv
        rw [← hv]
        exact World.cell?_setCell_same' _ _ _ (hth t ht).1
      · rw [if_neg f] at hv
        rw [World.cell?_setCell_other _ _ _ _ (fun q => f (by injection q with _ q; omega))]
        exact h.range i q hi u v hv
    · rw [if_neg e] at hp
      have hul : u < 64 := by
        have := (List.getElem?_eq_some_iff.1 hv).1
        rw [byteVals_length, h.size p (List.mem_of_getElem? hp)] at this; exact this
      rw [World.cell?_setCell_other _ _ _ _ (fun q => by
        injection q with _ q
        rcases Nat.lt_or_gt_of_ne e with g | g
        · have : (i + 1) * 64 ≤ j * 64 := Nat.mul_le_mul_right _ g; omega
        · have : (j + 1) * 64 ≤ i * 64 := Nat.mul_le_mul_right _ g; omega)]
      exact h.range j p hp u v hv
  · intro j hj
    rw [List.length_set] at hj
    have hf := h.free j hj
    refine ⟨?_, by rw [World.frozen?_setCell]; exact hf.2⟩
    by_cases e : i * 64 + t = 0 + j
    · have := World.cell?_setCell_same' w ⟨b, i * 64 + t, none⟩ (.int .u8 (x.toNat : Int)) (hth t ht).1
      rw [← e, this]; rfl
    · rw [World.cell?_setCell_other _ _ _ _ (fun q => e (by injection q))]
      exact hf.1
set_option maxRecDepth 100000 in
theorem mixed_step (p q : List UInt8) (t : Nat) (hp : p.length = 64) (hq : q.length = 64) (ht : t < 64) : (p.take t ++ q.drop t).set t (p.getD t 0) = p.take (t + 1) ++ q.drop (t + 1) := by
  have hpt : (p.take t).length = t := by rw [List.length_take]; omega
  rw [List.set_append_right _ _ (by omega), hpt, Nat.sub_self, List.drop_eq_getElem_cons (show t < q.length by omega), List.set_cons_zero, List.take_succ_eq_append_getElem (show t < p.length by omega), List.append_assoc]
  rw [List.getD_eq_getElem?_getD, List.getElem?_eq_getElem (show t < p.length by omega)]
  rfl

set_option maxRecDepth 100000 in
theorem set_same {α : Type} {l : List α} {i : Nat} {x : α} (h : l[i]? = some x) : l.set i x = l := by
  apply List.ext_getElem?
  intro j
  rw [List.getElem?_set]
  by_cases e : i = j
  · subst e
    rw [if_pos rfl, if_pos (List.getElem?_eq_some_iff.1 h).1, h]
  · rw [if_neg e]
/-! ### a crash, page by page -/
def crashR (s : Dk.St) (keep : List UInt8) (k : Nat) : Dk.St := { s with last := (Dk.crashTo s keep k).1, cache := upto s.last.length k (fun _ => none) (Dk.cacheAt s) }
set_option maxRecDepth 100000 in
theorem crashR_zero {s : Dk.St} (h : s.Ok) (keep : List UInt8) : crashR s keep 0 = s := by
  unfold crashR
  rw [upto_zero _ _ _ s.cache h.same (fun i hi => cache_at h hi)]
  rfl
set_option maxRecDepth 100000 in
theorem crashR_len (s : Dk.St) (keep : List UInt8) (k : Nat) : (crashR s keep k).last.length = s.last.length := Dk.crashTo_len s keep k
set_option maxRecDepth 100000 in
theorem crashR_clen (s : Dk.St) (keep : List UInt8) (k : Nat) : (crashR s keep k).cache.length = s.last.length := upto_length _ _ _ _
set_option maxRecDepth 100000 in
theorem crashR_cache {s : Dk.St} {keep : List UInt8} {k : Nat} (hk : k < s.last.length) : Dk.cacheAt (crashR s keep k) k = Dk.cacheAt s k := by
  show (upto s.last.length k (fun _ => none) (Dk.cacheAt s)).getD k none = _
  rw [List.getD_eq_getElem?_getD, upto_at _ _ _ _ k hk, if_neg (by omega)]; rfl
set_option maxRecDepth 100000 in
theorem crashR_none {s : Dk.St} {keep : List UInt8} {k : Nat} (h : Dk.cacheAt s k = none) : crashR s keep (k + 1) = crashR s keep k ∧ (Dk.crashTo s keep (k + 1)).2 = (Dk.crashTo s keep k).2 := by
  have e : Dk.crashTo s keep (k + 1) = Dk.crashTo s keep k := Dk.crashOne_none h
  unfold crashR
  rw [upto_same s.last.length k (fun _ => none) (Dk.cacheAt s) h.symm, e]
  exact ⟨rfl, rfl⟩
/-- how many bytes are kept -/
def keptOf (rest : List UInt8) : Nat := match rest with | [] => 0 | c :: _ => c.toNat % 65
set_option maxRecDepth 100000 in
theorem keptOf_le (rest : List UInt8) : keptOf rest ≤ 64 := by
  cases rest with
  | nil => exact Nat.zero_le _
  | cons c r => exact Nat.le_of_lt_succ (Nat.mod_lt _ (by omega))
set_option maxRecDepth 100000 in
theorem crash_row_at {s : Dk.St} {keep : List UInt8} {k : Nat} (hk : k < s.last.length) : (Dk.crashTo s keep k).1[k]? = some (Dk.lastAt s k) := by
  rw [Dk.crashTo_behind s keep k k (Nat.le_refl _)]; exact last_at hk
set_option maxRecDepth 100000 in
theorem crashR_some {s : Dk.St} {keep : List UInt8} {k : Nat} {p : List UInt8} (hk : k < s.last.length) (h : Dk.cacheAt s k = some p) :
    crashR s keep (k + 1) = { crashR s keep k with last := (crashR s keep k).last.set k (p.take (keptOf (Dk.crashTo s keep k).2) ++ (Dk.lastAt s k).drop (keptOf (Dk.crashTo s keep k).2)), cache := (crashR s keep k).cache.set k none } ∧
    (Dk.crashTo s keep (k + 1)).2 = (Dk.crashTo s keep k).2.tail := by
  unfold crashR
  rw [upto_succ s.last.length k (fun _ => none) (Dk.cacheAt s) hk]
  cases hr : (Dk.crashTo s keep k).2 with
  | nil =>
    have e : Dk.crashTo s keep (k + 1) = Dk.crashTo s keep k := Dk.crashOne_nil hr
    rw [e, hr]
    refine ⟨?_, rfl⟩
    have : (Dk.crashTo s keep k).1.set k (p.take 0 ++ (Dk.lastAt s k).drop 0) = (Dk.crashTo s keep k).1 := by
      rw [List.take_zero, List.nil_append, List.drop_zero]
      exact set_same (crash_row_at hk)
    show _ = _
    simp only [keptOf]
    rw [this]
  | cons c rest =>
    have e : Dk.crashTo s keep (k + 1) = ((Dk.crashTo s keep k).1.set k (Dk.torn (Dk.lastAt s k) p c), rest) := Dk.crashOne_some h hr
    rw [e]
    exact ⟨rfl, rfl⟩
set_option maxRecDepth 100000 in
theorem crashR_end (s : Dk.St) (keep : List UInt8) : Dk.crash s keep = { crashR s keep s.last.length with lim := false, left := 0, down := false } := by
  unfold Dk.crash crashR
  have e : (List.range s.last.length).map (fun _ => (none : Option (List UInt8))) = List.replicate s.last.length none := by simp [List.map_const']
  rw [upto_all, e]
structure InnerAt (wr : World) (a : Nat) (L : List (List UInt8)) (w : World) : Prop where
  rows : RowsAt w a L
  only : Only [a] wr w
set_option maxRecDepth 100000 in
theorem xKeep {W W' : World} {r b o : Nat} {v u x : Value} (h : W.cell? ⟨r, 0, none⟩ = some v ∧ W.cell? ⟨r, 1, none⟩ = some u ∧ W.cell? ⟨b, o, none⟩ = some x) (h1 : W'.heap[r]? = W.heap[r]?) (h2 : W'.heap[b]? = W.heap[b]?) :
    W'.cell? ⟨r, 0, none⟩ = some v ∧ W'.cell? ⟨r, 1, none⟩ = some u ∧ W'.cell? ⟨b, o, none⟩ = some x :=
  ⟨(World.cell?_of_block (w := W) (a := ⟨r, 0, none⟩) h1).trans h.1, (World.cell?_of_block (w := W) (a := ⟨r, 1, none⟩) h1).trans h.2.1, (World.cell?_of_block (w := W) (a := ⟨b, o, none⟩) h2).trans h.2.2⟩
end Go.Proofs.YtppbiohjhnoagaaGreat

/-
  The contract of the reference's Crash.
-/
namespace Go.Proofs.YtppbiohjhnoagaaGreat
open Go.RowKit
open Dk (zeros zeros_length)

set_option maxRecDepth 100000 in
set_option maxHeartbeats 8000000 in
theorem rcrash_row {w : World} {r a b c : Nat} {s : Dk.St} (h : RefAt w r a b c s) (A : Option Addr) (cp : Nat) (keep : List UInt8) (kb ko : Nat) (hsm : keep.length ≤ 1000) (hA : 0 < keep.length → A = some ⟨kb, ko, none⟩)
    (hkc : ∀ j, j < keep.length → kb < w.heap.size ∧ kb ∉ [r, a, b, c] ∧ w.cell? ⟨kb, ko + j, none⟩ = some (.int .u8 ((keep.getD j 0).toNat : Int))) :
    Calls Tryz.prog 22 #[.pointer (some ⟨r, 0, none⟩), .slice A keep.length cp] w fun e w' =>
    e = .returned (.tuple #[]) ∧ RefAt w' r a b c (Dk.crash s keep) ∧ Only [r, a, b, c] w w' := by
  have HD := Lib.hid h
  have HK := Lib.hid hkc
  have HAA := Lib.hid hA
  have hn := h.ok.small
  clear h hkc hA
  go_enter Tryz.func22, Tryz.ntmps22
  go_wp2_with fail
  go_loopw [4, 5] (fun q i wr => ∃ k j : Nat, k ≤ s.last.length ∧ i = .int .i64 k ∧ q = .int .i64 j ∧ j ≤ k ∧ (Dk.crashTo s keep k).2 = keep.drop j ∧ RefAt wr r a b c (crashR s keep k) ∧ Only [r, a, b, c] w wr) (fun _ i _ => s.last.length - (intOf i).toNat)
  case atStart => exact ⟨0, 0, Nat.zero_le _, rfl, rfl, Nat.le_refl _, rfl, by rw [crashR_zero HD.out.ok]; exact HD.out, Only.refl _ _⟩
  case round =>
    obtain ⟨k, j, hk, rfl, rfl, hjk, hrest, hrk, hok⟩ := hrel
    rename World => wo
    have HRK := Lib.hid hrk
    have HOK := Lib.hid hok
    have HRE := Lib.hid hrest
    have e0 := hrk.c0
    have e1 := hrk.c1
    have e2 := hrk.c2
    rw [crashR_len] at e0 e1 e2
    clear hrest hok
    by_cases hlt : k < s.last.length
    · have hk0 : (0 : Int) ≤ (k : Int) := by omega
      have hk1 : (k : Int) < (s.last.length : Int) := by omega
      have hon := hrk.on.at k (by rw [hrk.n, crashR_len]; exact hlt)
      have hfr := hrk.on.frozen k (by rw [hrk.n, crashR_len]; exact hlt)
      rw [onOf_at _ k (by rw [crashR_clen]; exact hlt), crashR_cache hlt] at hon
      clear hrk
      cases hca : Dk.cacheAt s k with
      | none =>
        rw [hca] at hon
        simp only [Option.isSome_none] at hon
        have HN := Lib.hid (crashR_none (keep := keep) hca)
        clear hca
        go_wp2
        go_roundw
        case rel => exact ⟨k + 1, j, by omega, by go_num, rfl, by omega, by rw [HN.out.2]; exact HRE.out, by rw [HN.out.1]; exact HRK.out, HOK.out⟩
        case measure => simp [intOf]; omega
      | some p =>
        rw [hca] at hon
        simp only [Option.isSome_some] at hon
        have HPL := Lib.hid (Dk.cacheAt_len HD.out.ok hca)
        have HLL := Lib.hid (Dk.lastAt_len HD.out.ok hlt)
        have HST := Lib.hid (crashR_some (keep := keep) hlt hca)
        have HNW : Hid (wo.rangeAt b (k * 64) (byteVals p)) := Lib.hid (by
          obtain ⟨new, hnew⟩ := HRK.out.new
          exact hnew.rows.range k p (hnew.held k p (by rw [crashR_cache hlt]; exact hca)))
        have HIN : Hid (InnerAt wo a ((Dk.crashTo s keep k).1.set k (p.take 0 ++ (Dk.lastAt s k).drop 0)) wo) := Lib.hid ⟨by
          rw [List.take_zero, List.nil_append, List.drop_zero, set_same (crash_row_at hlt)]
          exact HRK.out.rows, Only.refl _ _⟩
        have HKL : Hid (k < (crashR s keep k).last.length) := Lib.hid (by rw [crashR_len]; exact hlt)
        have HTL : Hid ((Dk.crashTo s keep k).2.tail = keep.drop (j + 1)) := Lib.hid (by rw [HRE.out, List.tail_drop])
        clear hca
        by_cases hj : j < keep.length
        · have hj1 : (j : Int) < (keep.length : Int) := by omega
          have hj0 : (0 : Int) ≤ (j : Int) := by omega
          obtain rfl := HAA.out (by omega)
          have hkj := HK.out j hj
          have hkcell : wo.cell? ⟨kb, ko + j, none⟩ = some (.int .u8 ((keep.getD j 0).toNat : Int)) := (HOK.out.cell (p := ⟨kb, ko + j, none⟩) hkj.1 hkj.2.1).trans hkj.2.2
          clear hkj
          obtain ⟨M, hM, hMk, hM64⟩ : ∃ M : Nat, ((keep.getD j 0).toNat : Int) % 65 = (M : Int) ∧ keptOf (Dk.crashTo s keep k).2 = M ∧ M ≤ 64 := by
            refine ⟨(keep.getD j 0).toNat % 65, by omega, ?_, by omega⟩
            rw [HRE.out, List.drop_eq_getElem_cons hj, List.getD_eq_getElem?_getD, List.getElem?_eq_getElem hj]; rfl
          rw [hMk] at HST
          have hxx := (keep.getD j 0).toNat_lt
          generalize (keep.getD j 0) = xx at hkcell hM hxx
          have HM64 := Lib.hid hM64
          clear hMk hM64
          go_wp2_with fail

          have HMM := Lib.hid HM64.out
          go_loopw [7] (fun v wi => ∃ t : Nat, t ≤ M ∧ v = .int .i64 t ∧ InnerAt wo a ((Dk.crashTo s keep k).1.set k (p.take t ++ (Dk.lastAt s k).drop t)) wi) (fun v _ => M - (intOf v).toNat)
          case atStart => exact ⟨0, Nat.zero_le _, rfl, HIN.out⟩
          case round =>
            obtain ⟨t, ht, rfl, hin⟩ := hrel
            have HI := Lib.hid hin
            have i0 : wr.cell? ⟨r, 0, none⟩ = some (.slice (some ⟨a, 0, none⟩) s.last.length s.last.length) := (hin.only.cell (p := ⟨r, 0, none⟩) HRK.out.rlt (by simpa using HRK.out.ra)).trans e0
            have i1 : wr.cell? ⟨r, 1, none⟩ = some (.slice (some ⟨b, 0, none⟩) s.last.length s.last.length) := (hin.only.cell (p := ⟨r, 1, none⟩) HRK.out.rlt (by simpa using HRK.out.ra)).trans e1
            have i3 : wr.cell? ⟨r, 2, none⟩ = some (.slice (some ⟨c, 0, none⟩) s.last.length s.last.length) := (hin.only.cell (p := ⟨r, 2, none⟩) HRK.out.rlt (by simpa using HRK.out.ra)).trans e2
            have HROW : Hid (((Dk.crashTo s keep k).1.set k (p.take t ++ (Dk.lastAt s k).drop t))[k]? = some (p.take t ++ (Dk.lastAt s k).drop t)) := Lib.hid (by rw [List.getElem?_set, if_pos rfl, if_pos (by have := HKL.out; exact this)])
            by_cases htm : t < M
            · have ht64 : t < 64 := by have := HMM.out; omega
              have htI : (t : Int) < 64 := by omega
              have ht0 : (0 : Int) ≤ (t : Int) := by omega
              have i2 : wr.cell? ⟨b, k * 64 + t, none⟩ = some (.int .u8 ((p.getD t 0).toNat : Int)) := (hin.only.cell (p := ⟨b, k * 64 + t, none⟩) HRK.out.blt (by simpa using Ne.symm HRK.out.ab)).trans (HNW.out t _ (by
                have := byteVals_at p t (by rw [HPL.out]; exact ht64)
                rw [this, List.getD_eq_getElem?_getD, List.getElem?_eq_getElem (show t < p.length by rw [HPL.out]; exact ht64)]; rfl))
              have hth := HI.out.rows.thereAt k (by rw [List.length_set]; have := HKL.out; exact this) t ht64
              obtain ⟨ov, hov⟩ := Option.isSome_iff_exists.1 hth.1
              have hovf := hth.2
              have HNX := Lib.hid ((HI.out.rows.block (w' := wr.drew) rfl).setByte HROW.out ht64 (p.getD t 0))
              rw [List.set_set, mixed_step p _ t HPL.out HLL.out ht64] at HNX
              have hov' : wr.drew.cell? ⟨a, k * 64 + t, none⟩ = some ov := hov
              have hovf' : wr.drew.frozen? ⟨a, k * 64 + t, none⟩ = false := hovf
              clear hin hth hov hovf
              generalize hby : p.getD t 0 = by0 at i2 HNX
              clear hby
              go_wp2_with fail
              refine wp_region_noPanic ?_
              refine wp_region_held_drew (S := fun W => W.cell? ⟨r, 0, none⟩ = some (.slice (some ⟨a, 0, none⟩) s.last.length s.last.length) ∧ W.cell? ⟨r, 1, none⟩ = some (.slice (some ⟨b, 0, none⟩) s.last.length s.last.length) ∧ W.cell? ⟨b, k * 64 + t, none⟩ = some (.int .u8 (by0.toNat : Int))) (by kernel_rfl) ⟨i0, i1, i2⟩ (fun hHeld => ?_)
              refine take_at (i := 0) (d := some 42) (v := .pointer (some ⟨r, 0, none⟩)) rfl rfl (by kernel_rfl) (by kernel_rfl) (by kernel_rfl) (fun _ _ _ h => h) (Or.inl ⟨by kernel_rfl, ?_⟩) hHeld ?_
              · intro w hSw; obtain ⟨s1, s2, s3⟩ := hSw; go_simp
              (try simp only [Act.put, List.setIfInBounds_toArray, List.set_cons_zero, List.set_cons_succ])
              refine take_at (i := 1) (d := some 43) (v := .pointer (some ⟨r, 0, none⟩)) rfl rfl (by kernel_rfl) (by kernel_rfl) (by kernel_rfl) (fun _ _ _ h => h) (Or.inl ⟨by kernel_rfl, ?_⟩) hHeld ?_
              · intro w hSw; obtain ⟨s1, s2, s3⟩ := hSw; go_simp
              (try simp only [Act.put, List.setIfInBounds_toArray, List.set_cons_zero, List.set_cons_succ])
              refine take_at (i := 2) (d := some 44) (v := .pointer (some ⟨r, 0, none⟩)) rfl rfl (by kernel_rfl) (by kernel_rfl) (by kernel_rfl) (fun _ _ _ h => h) (Or.inl ⟨by kernel_rfl, ?_⟩) hHeld ?_
              · intro w hSw; obtain ⟨s1, s2, s3⟩ := hSw; go_simp
              (try simp only [Act.put, List.setIfInBounds_toArray, List.set_cons_zero, List.set_cons_succ])
              refine take_at (i := 3) (d := some 45) (v := .slice (some ⟨a, 0, none⟩) s.last.length s.last.length) rfl rfl (by kernel_rfl) (by kernel_rfl) (by kernel_rfl) (fun _ _ _ h => h) (Or.inl ⟨by kernel_rfl, ?_⟩) hHeld ?_
              · intro w hSw; obtain ⟨s1, s2, s3⟩ := hSw; go_simp
              (try simp only [Act.put, List.setIfInBounds_toArray, List.set_cons_zero, List.set_cons_succ])
              refine take_at (i := 4) (d := some 46) (v := .int .i64 (k : Int)) rfl rfl (by kernel_rfl) (by kernel_rfl) (by kernel_rfl) (fun _ _ _ h => h) (Or.inl ⟨by kernel_rfl, ?_⟩) hHeld ?_
              · intro w hSw; obtain ⟨s1, s2, s3⟩ := hSw; go_simp
              (try simp only [Act.put, List.setIfInBounds_toArray, List.set_cons_zero, List.set_cons_succ])
              refine take_at (i := 5) (d := some 47) (v := .int .i64 (t : Int)) rfl rfl (by kernel_rfl) (by kernel_rfl) (by kernel_rfl) (fun _ _ _ h => h) (Or.inl ⟨by kernel_rfl, ?_⟩) hHeld ?_
              · intro w hSw; obtain ⟨s1, s2, s3⟩ := hSw; go_simp
              (try simp only [Act.put, List.setIfInBounds_toArray, List.set_cons_zero, List.set_cons_succ])
              refine take_at (i := 6) (d := some 48) (v := .pointer (some ⟨r, 0, none⟩)) rfl rfl (by kernel_rfl) (by kernel_rfl) (by kernel_rfl) (fun _ _ _ h => h) (Or.inl ⟨by kernel_rfl, ?_⟩) hHeld ?_
              · intro w hSw; obtain ⟨s1, s2, s3⟩ := hSw; go_simp
              (try simp only [Act.put, List.setIfInBounds_toArray, List.set_cons_zero, List.set_cons_succ])
              refine take_at (i := 7) (d := some 49) (v := .pointer (some ⟨r, 0, none⟩)) rfl rfl (by kernel_rfl) (by kernel_rfl) (by kernel_rfl) (fun _ _ _ h => h) (Or.inl ⟨by kernel_rfl, ?_⟩) hHeld ?_
              · intro w hSw; obtain ⟨s1, s2, s3⟩ := hSw; go_simp
              (try simp only [Act.put, List.setIfInBounds_toArray, List.set_cons_zero, List.set_cons_succ])
              refine take_at (i := 8) (d := some 50) (v := .pointer (some ⟨r, 1, none⟩)) rfl rfl (by kernel_rfl) (by kernel_rfl) (by kernel_rfl) (fun _ _ _ h => h) (Or.inl ⟨by kernel_rfl, ?_⟩) hHeld ?_
              · intro w hSw; obtain ⟨s1, s2, s3⟩ := hSw; go_simp
              (try simp only [Act.put, List.setIfInBounds_toArray, List.set_cons_zero, List.set_cons_succ])
              refine take_at (i := 9) (d := some 51) (v := .slice (some ⟨b, 0, none⟩) s.last.length s.last.length) rfl rfl (by kernel_rfl) (by kernel_rfl) (by kernel_rfl) (fun _ _ _ h => h) (Or.inl ⟨by kernel_rfl, ?_⟩) hHeld ?_
              · intro w hSw; obtain ⟨s1, s2, s3⟩ := hSw; go_simp
              (try simp only [Act.put, List.setIfInBounds_toArray, List.set_cons_zero, List.set_cons_succ])
              refine take_at (i := 10) (d := some 52) (v := .int .i64 (k : Int)) rfl rfl (by kernel_rfl) (by kernel_rfl) (by kernel_rfl) (fun _ _ _ h => h) (Or.inl ⟨by kernel_rfl, ?_⟩) hHeld ?_
              · intro w hSw; obtain ⟨s1, s2, s3⟩ := hSw; go_simp
              (try simp only [Act.put, List.setIfInBounds_toArray, List.set_cons_zero, List.set_cons_succ])
              refine take_at (i := 11) (d := some 53) (v := .int .i64 (t : Int)) rfl rfl (by kernel_rfl) (by kernel_rfl) (by kernel_rfl) (fun _ _ _ h => h) (Or.inl ⟨by kernel_rfl, ?_⟩) hHeld ?_
              · intro w hSw; obtain ⟨s1, s2, s3⟩ := hSw; go_simp
              (try simp only [Act.put, List.setIfInBounds_toArray, List.set_cons_zero, List.set_cons_succ])
              refine take_at (i := 12) (d := some 54) (v := .pointer (some ⟨b, k * 64, none⟩)) rfl rfl (by kernel_rfl) (by kernel_rfl) (by kernel_rfl) (fun _ _ _ h => h) (Or.inl ⟨by kernel_rfl, ?_⟩) hHeld ?_
              · intro w hSw; obtain ⟨s1, s2, s3⟩ := hSw; go_simp
              (try simp only [Act.put, List.setIfInBounds_toArray, List.set_cons_zero, List.set_cons_succ])
              refine take_at (i := 13) (d := some 55) (v := .pointer (some ⟨b, k * 64 + t, none⟩)) rfl rfl (by kernel_rfl) (by kernel_rfl) (by kernel_rfl) (fun _ _ _ h => h) (Or.inl ⟨by kernel_rfl, ?_⟩) hHeld ?_
              · intro w hSw; obtain ⟨s1, s2, s3⟩ := hSw; go_simp
              (try simp only [Act.put, List.setIfInBounds_toArray, List.set_cons_zero, List.set_cons_succ])
              refine take_at (i := 14) (d := some 56) (v := .int .u8 (by0.toNat : Int)) rfl rfl (by kernel_rfl) (by kernel_rfl) (by kernel_rfl) (fun _ _ _ h => h) (Or.inl ⟨by kernel_rfl, ?_⟩) hHeld ?_
              · intro w hSw; obtain ⟨s1, s2, s3⟩ := hSw; go_simp
              (try simp only [Act.put, List.setIfInBounds_toArray, List.set_cons_zero, List.set_cons_succ])
              refine take_at (i := 15) (d := some 57) (v := .pointer (some ⟨a, k * 64, none⟩)) rfl rfl (by kernel_rfl) (by kernel_rfl) (by kernel_rfl) (fun _ _ _ h => h) (Or.inl ⟨by kernel_rfl, ?_⟩) hHeld ?_
              · intro w hSw; obtain ⟨s1, s2, s3⟩ := hSw; go_simp
              (try simp only [Act.put, List.setIfInBounds_toArray, List.set_cons_zero, List.set_cons_succ])
              refine take_at (i := 16) (d := some 58) (v := .pointer (some ⟨a, k * 64 + t, none⟩)) rfl rfl (by kernel_rfl) (by kernel_rfl) (by kernel_rfl) (fun _ _ _ h => h) (Or.inl ⟨by kernel_rfl, ?_⟩) hHeld ?_
              · intro w hSw; obtain ⟨s1, s2, s3⟩ := hSw; go_simp
              (try simp only [Act.put, List.setIfInBounds_toArray, List.set_cons_zero, List.set_cons_succ])
              refine wpAnyH_ready (rs := [17]) (by kernel_rfl) (by simp) ?_
              refine AllReadyH.cons rfl (fun K hK => ?_) AllReadyH.nil
              go_simp
              refine hK.out _ _ (xKeep hHeld (Below.heap_setCell _ _ _ _ HRK.out.ra) (Below.heap_setCell _ _ _ _ (Ne.symm HRK.out.ab))) (fun hHeld => ?_)
              clear hK K
              (try simp only [Act.put])
              refine wpAnyH_done (by kernel_rfl) ?_ _
              refine NoPanic.normal ?_
              go_wp2
              go_roundw
              case rel => exact ⟨t + 1, by omega, by go_num, ⟨HNX.out, HI.out.only.drew.setCell (by simp) _⟩⟩
              case measure => simp [intOf]; omega
            · obtain rfl : t = M := by omega
              have hon2 : wr.cell? ⟨c, k, none⟩ = some (.bool true) := (hin.only.cell (p := ⟨c, k, none⟩) HRK.out.clt (by simpa using Ne.symm HRK.out.ac)).trans hon
              have hfr2 : wr.frozen? ⟨c, k, none⟩ = false := (hin.only.frozen (p := ⟨c, k, none⟩) HRK.out.clt (by simpa using Ne.symm HRK.out.ac)).trans hfr
              have HSE := Lib.hid (HRK.out.settle k HKL.out (p := p.take t ++ (Dk.lastAt s k).drop t) (by rw [List.length_append, List.length_take, List.length_drop, HPL.out, HLL.out]; have := HMM.out; omega) (w' := wr) (hin.only.block r HRK.out.rlt (by simpa using HRK.out.ra)) (hin.only.block b HRK.out.blt (by simpa using Ne.symm HRK.out.ab)) (hin.only.block c HRK.out.clt (by simpa using Ne.symm HRK.out.ac)) HI.out.rows)
              have HOO := Lib.hid ((HOK.out.trans (hin.only.mono (by simp))).setCell (p := ⟨c, k, none⟩) (by simp) (.bool false))
              clear hin
              go_wp2
              go_roundw
              case rel => exact ⟨k + 1, j + 1, by omega, by go_num, by go_num, by omega, by rw [HST.out.2]; exact HTL.out, by rw [HST.out.1]; exact HSE.out, HOO.out⟩
              case measure => simp [intOf]; omega
        · have hj1 : ¬ (j : Int) < (keep.length : Int) := by omega
          have hMk : keptOf (Dk.crashTo s keep k).2 = 0 := by rw [HRE.out, List.drop_of_length_le (by omega)]; rfl
          rw [hMk] at HST
          have HM64 : Hid ((0 : Nat) ≤ 64) := Lib.hid (by omega)
          clear hMk
          go_wp2_with fail

          have HMM := Lib.hid HM64.out
          go_loopw [7] (fun v wi => ∃ t : Nat, t ≤ 0 ∧ v = .int .i64 t ∧ InnerAt wo a ((Dk.crashTo s keep k).1.set k (p.take t ++ (Dk.lastAt s k).drop t)) wi) (fun v _ => 0 - (intOf v).toNat)
          case atStart => exact ⟨0, Nat.zero_le _, rfl, HIN.out⟩
          case round =>
            obtain ⟨t, ht, rfl, hin⟩ := hrel
            have HI := Lib.hid hin
            have i0 : wr.cell? ⟨r, 0, none⟩ = some (.slice (some ⟨a, 0, none⟩) s.last.length s.last.length) := (hin.only.cell (p := ⟨r, 0, none⟩) HRK.out.rlt (by simpa using HRK.out.ra)).trans e0
            have i1 : wr.cell? ⟨r, 1, none⟩ = some (.slice (some ⟨b, 0, none⟩) s.last.length s.last.length) := (hin.only.cell (p := ⟨r, 1, none⟩) HRK.out.rlt (by simpa using HRK.out.ra)).trans e1
            have i3 : wr.cell? ⟨r, 2, none⟩ = some (.slice (some ⟨c, 0, none⟩) s.last.length s.last.length) := (hin.only.cell (p := ⟨r, 2, none⟩) HRK.out.rlt (by simpa using HRK.out.ra)).trans e2
            have HROW : Hid (((Dk.crashTo s keep k).1.set k (p.take t ++ (Dk.lastAt s k).drop t))[k]? = some (p.take t ++ (Dk.lastAt s k).drop t)) := Lib.hid (by rw [List.getElem?_set, if_pos rfl, if_pos (by have := HKL.out; exact this)])
            by_cases htm : t < 0
            · exact absurd htm (by omega)
            · obtain rfl : t = 0 := by omega
              have hon2 : wr.cell? ⟨c, k, none⟩ = some (.bool true) := (hin.only.cell (p := ⟨c, k, none⟩) HRK.out.clt (by simpa using Ne.symm HRK.out.ac)).trans hon
              have hfr2 : wr.frozen? ⟨c, k, none⟩ = false := (hin.only.frozen (p := ⟨c, k, none⟩) HRK.out.clt (by simpa using Ne.symm HRK.out.ac)).trans hfr
              have HSE := Lib.hid (HRK.out.settle k HKL.out (p := p.take 0 ++ (Dk.lastAt s k).drop 0) (by rw [List.length_append, List.length_take, List.length_drop, HPL.out, HLL.out]; have := HMM.out; omega) (w' := wr) (hin.only.block r HRK.out.rlt (by simpa using HRK.out.ra)) (hin.only.block b HRK.out.blt (by simpa using Ne.symm HRK.out.ab)) (hin.only.block c HRK.out.clt (by simpa using Ne.symm HRK.out.ac)) HI.out.rows)
              have HOO := Lib.hid ((HOK.out.trans (hin.only.mono (by simp))).setCell (p := ⟨c, k, none⟩) (by simp) (.bool false))
              clear hin
              go_wp2
              go_roundw
              case rel => exact ⟨k + 1, j + 1, by omega, by go_num, by go_num, by omega, by rw [HST.out.2]; exact HTL.out, by rw [HST.out.1]; exact HSE.out, HOO.out⟩
              case measure => simp [intOf]; omega
    · obtain rfl : k = s.last.length := by omega
      clear hrk
      have f3 := HRK.out.f3
      have f4 := HRK.out.f4
      have c3 := HRK.out.c3
      have c4 := HRK.out.c4
      have hcok := Dk.crash_ok HD.out.ok keep
      have hce := crashR_end s keep
      rw [hce] at hcok
      have HF : Hid (RefAt ((wo.setCell ⟨r, 3, none⟩ (.int .i64 (-1))).setCell ⟨r, 4, none⟩ (.bool false)) r a b c (Dk.crash s keep)) := Lib.hid (by
        rw [hce]
        exact (HRK.out.setLeft (s' := { crashR s keep s.last.length with lim := false, left := 0 }) (-1) ⟨hcok.same, hcok.pos, hcok.small, hcok.pages, hcok.cpages, hcok.lo, hcok.hi, hcok.live⟩ rfl rfl rfl rfl).setDown (s' := { crashR s keep s.last.length with lim := false, left := 0, down := false }) false hcok rfl rfl rfl rfl)
      clear hcok hce
      go_wp2
      go_end0
      exact ⟨rfl, HF.out, (HOK.out.setCell (by simp) _).setCell (by simp) _⟩
set_option maxRecDepth 100000 in
theorem rcrash_any {w : World} {r a b c : Nat} {s : Dk.St} (h : RefAt w r a b c s) (A : Option Addr) (cp : Nat) (keep : List UInt8) (hk : KeepAt w A cp keep [r, a, b, c]) :
    Calls Tryz.prog 22 #[.pointer (some ⟨r, 0, none⟩), .slice A keep.length cp] w fun e w' =>
    e = .returned (.tuple #[]) ∧ RefAt w' r a b c (Dk.crash s keep) ∧ Only [r, a, b, c] w w' := by
  by_cases h0 : 0 < keep.length
  · obtain ⟨kb, ko, e, h1, h2, h3⟩ := hk.cells h0
    exact rcrash_row h A cp keep kb ko hk.small (fun _ => e) (fun j hj => ⟨h1, h2, h3 j hj⟩)
  · exact rcrash_row h A cp keep 0 0 hk.small (fun q => absurd q h0) (fun j hj => by omega)
end Go.Proofs.YtppbiohjhnoagaaGreat
