/-
  The reference's disk in memory, by the same state as the program's.
-/
import Derived.Test.YtaiikpfgnamgiaaDrows
namespace Go.Proofs.Ytaiikpfgnamgiaa
open Go.RowKit
open Dk (zeros zeros_length)

/-! ### a row of bools -/
structure BoolsAt (w : World) (b : Nat) (bs : List Bool) : Prop where
  cell : ∀ i v, bs[i]? = some v → w.cell? ⟨b, i, none⟩ = some (.bool v)
  frozen : ∀ i, i < bs.length → w.frozen? ⟨b, i, none⟩ = false
theorem BoolsAt.block {w w' : World} {b : Nat} {bs : List Bool} (h : BoolsAt w b bs) (hb : w'.heap[b]? = w.heap[b]?) : BoolsAt w' b bs :=
  ⟨fun i v hv => (World.cell?_of_block (w := w) (a := ⟨b, i, none⟩) hb).trans (h.cell i v hv), fun i hi => (World.frozen?_of_block (w := w) (a := ⟨b, i, none⟩) hb).trans (h.frozen i hi)⟩
theorem BoolsAt.at {w : World} {b : Nat} {bs : List Bool} (h : BoolsAt w b bs) (i : Nat) (hi : i < bs.length) : w.cell? ⟨b, i, none⟩ = some (.bool (bs.getD i false)) := by
  refine h.cell i _ ?_
  rw [List.getD_eq_getElem?_getD, List.getElem?_eq_getElem hi]; rfl
theorem BoolsAt.lt {w : World} {b : Nat} {bs : List Bool} (h : BoolsAt w b bs) (h0 : 0 < bs.length) : b < w.heap.size := World.block_lt_of_cell? w _ (h.at 0 h0)
theorem BoolsAt.set {w : World} {b : Nat} {bs : List Bool} (h : BoolsAt w b bs) (i : Nat) (hi : i < bs.length) (x : Bool) : BoolsAt (w.setCell ⟨b, i, none⟩ (.bool x)) b (bs.set i x) where
  cell := fun j v hv => by
    rw [List.getElem?_set] at hv
    by_cases e : i = j
    · subst e
      rw [if_pos rfl, if_pos hi] at hv
      injection hv with hv
      rw [← hv]
      exact World.cell?_setCell_same' _ _ _ (by rw [h.at i hi]; rfl)
    · rw [if_neg e] at hv
      rw [World.cell?_setCell_other _ _ _ _ (fun q => e (by injection q))]
      exact h.cell j v hv
  frozen := fun j hj => by
    rw [World.frozen?_setCell]
    exact h.frozen j (by rwa [List.length_set] at hj)

/-! ### the reference's disk -/
def onOf (s : Dk.St) : List Bool := s.cache.map (·.isSome)
def leftOf (s : Dk.St) : Int := if s.lim = true then s.left else -1
theorem onOf_length (s : Dk.St) : (onOf s).length = s.cache.length := by unfold onOf; simp
theorem onOf_at (s : Dk.St) (i : Nat) (hi : i < s.cache.length) : (onOf s).getD i false = (Dk.cacheAt s i).isSome := by
  unfold onOf Dk.cacheAt
  rw [List.getD_eq_getElem?_getD, List.getElem?_map, List.getElem?_eq_getElem hi, List.getD_eq_getElem?_getD, List.getElem?_eq_getElem hi]; rfl
/-- what was written since -/
structure NewAt (w : World) (b : Nat) (s : Dk.St) (new : List (List UInt8)) : Prop where
  rows : RowsAt w b new
  len : new.length = s.last.length
  held : ∀ i p, Dk.cacheAt s i = some p → new[i]? = some p
structure RefAt (w : World) (r a b c : Nat) (s : Dk.St) : Prop where
  ok : s.Ok
  ra : r ≠ a
  rb : r ≠ b
  rc : r ≠ c
  ab : a ≠ b
  ac : a ≠ c
  bc : b ≠ c
  c0 : w.cell? ⟨r, 0, none⟩ = some (.slice (some ⟨a, 0, none⟩) s.last.length s.last.length)
  c1 : w.cell? ⟨r, 1, none⟩ = some (.slice (some ⟨b, 0, none⟩) s.last.length s.last.length)
  c2 : w.cell? ⟨r, 2, none⟩ = some (.slice (some ⟨c, 0, none⟩) s.last.length s.last.length)
  c3 : w.cell? ⟨r, 3, none⟩ = some (.int .i64 (leftOf s))
  c4 : w.cell? ⟨r, 4, none⟩ = some (.bool s.down)
  f3 : w.frozen? ⟨r, 3, none⟩ = false
  f4 : w.frozen? ⟨r, 4, none⟩ = false
  rows : RowsAt w a s.last
  new : ∃ new, NewAt w b s new
  on : BoolsAt w c (onOf s)
theorem RefAt.n {w : World} {r a b c : Nat} {s : Dk.St} (h : RefAt w r a b c s) : (onOf s).length = s.last.length := by rw [onOf_length, h.ok.same]
theorem RefAt.rlt {w : World} {r a b c : Nat} {s : Dk.St} (h : RefAt w r a b c s) : r < w.heap.size := World.block_lt_of_cell? w _ h.c0
theorem RefAt.alt {w : World} {r a b c : Nat} {s : Dk.St} (h : RefAt w r a b c s) : a < w.heap.size := h.rows.lt h.ok.pos
theorem RefAt.blt {w : World} {r a b c : Nat} {s : Dk.St} (h : RefAt w r a b c s) : b < w.heap.size := by
  obtain ⟨new, hn⟩ := h.new
  exact hn.rows.lt (by rw [hn.len]; exact h.ok.pos)
theorem RefAt.clt {w : World} {r a b c : Nat} {s : Dk.St} (h : RefAt w r a b c s) : c < w.heap.size := h.on.lt (by rw [h.n]; exact h.ok.pos)
/-- all of it anew, out of what its blocks hold -/
theorem RefAt.renew {w w' : World} {r a b c : Nat} {s s' : Dk.St} (h : RefAt w r a b c s) (hr : w'.heap[r]? = w.heap[r]?) (hok : s'.Ok) (hl : s'.last.length = s.last.length) (hf : leftOf s' = leftOf s) (hd : s'.down = s.down) (hrows : RowsAt w' a s'.last) (hnew : ∃ new, NewAt w' b s' new) (hon : BoolsAt w' c (onOf s')) : RefAt w' r a b c s' where
  ok := hok
  ra := h.ra
  rb := h.rb
  rc := h.rc
  ab := h.ab
  ac := h.ac
  bc := h.bc
  c0 := (World.cell?_of_block (w := w) (a := ⟨r, 0, none⟩) hr).trans (by rw [hl]; exact h.c0)
  c1 := (World.cell?_of_block (w := w) (a := ⟨r, 1, none⟩) hr).trans (by rw [hl]; exact h.c1)
  c2 := (World.cell?_of_block (w := w) (a := ⟨r, 2, none⟩) hr).trans (by rw [hl]; exact h.c2)
  c3 := (World.cell?_of_block (w := w) (a := ⟨r, 3, none⟩) hr).trans (by rw [hf]; exact h.c3)
  c4 := (World.cell?_of_block (w := w) (a := ⟨r, 4, none⟩) hr).trans (by rw [hd]; exact h.c4)
  f3 := (World.frozen?_of_block (w := w) (a := ⟨r, 3, none⟩) hr).trans h.f3
  f4 := (World.frozen?_of_block (w := w) (a := ⟨r, 4, none⟩) hr).trans h.f4
  rows := hrows
  new := hnew
  on := hon
theorem RefAt.blocks {w w' : World} {r a b c : Nat} {s : Dk.St} (h : RefAt w r a b c s) (hr : w'.heap[r]? = w.heap[r]?) (ha : w'.heap[a]? = w.heap[a]?) (hb : w'.heap[b]? = w.heap[b]?) (hc : w'.heap[c]? = w.heap[c]?) : RefAt w' r a b c s := by
  obtain ⟨new, hn⟩ := h.new
  exact h.renew hr h.ok rfl rfl rfl (h.rows.block ha) ⟨new, hn.rows.block hb, hn.len, hn.held⟩ (h.on.block hc)
theorem RefAt.only {w w' : World} {r a b c : Nat} {s : Dk.St} {L : List Nat} (h : RefAt w r a b c s) (ho : Only L w w') (hr : r ∉ L) (ha : a ∉ L) (hb : b ∉ L) (hc : c ∉ L) : RefAt w' r a b c s :=
  h.blocks (ho.block r h.rlt hr) (ho.block a h.alt ha) (ho.block b h.blt hb) (ho.block c h.clt hc)
theorem RefAt.below {w w' : World} {r a b c : Nat} {s : Dk.St} (h : RefAt w r a b c s) (hb : Below w.heap.size w w') : RefAt w' r a b c s :=
  h.only (L := []) (Only.below hb) (by simp) (by simp) (by simp) (by simp)
theorem RefAt.alloc {w : World} {r a b c : Nat} {s : Dk.St} (h : RefAt w r a b c s) (o : Obj) : RefAt (w.alloc o) r a b c s := h.below ((Below.refl _ _).alloc (Nat.le_refl _) _)
theorem RefAt.drew {w : World} {r a b c : Nat} {s : Dk.St} (h : RefAt w r a b c s) : RefAt w.drew r a b c s := h.blocks rfl rfl rfl rfl
/-- its own block is written -/
theorem RefAt.setLeft {w : World} {r a b c : Nat} {s s' : Dk.St} (h : RefAt w r a b c s) (x : Int) (hok : s'.Ok) (hl : s'.last = s.last) (hcc : s'.cache = s.cache) (hx : leftOf s' = x) (hd : s'.down = s.down) :
    RefAt (w.setCell ⟨r, 3, none⟩ (.int .i64 x)) r a b c s' := by
  obtain ⟨new, hn⟩ := h.new
  have hbk : ∀ k, k ≠ r → (w.setCell ⟨r, 3, none⟩ (.int .i64 x)).heap[k]? = w.heap[k]? := fun k hk => Below.heap_setCell _ _ _ _ hk
  have hon : onOf s' = onOf s := by unfold onOf; rw [hcc]
  exact { ok := hok, ra := h.ra, rb := h.rb, rc := h.rc, ab := h.ab, ac := h.ac, bc := h.bc
          c0 := by rw [World.cell?_setCell_other _ _ _ _ (fun q => by injection q with _ q; omega), hl]; exact h.c0
          c1 := by rw [World.cell?_setCell_other _ _ _ _ (fun q => by injection q with _ q; omega), hl]; exact h.c1
          c2 := by rw [World.cell?_setCell_other _ _ _ _ (fun q => by injection q with _ q; omega), hl]; exact h.c2
          c3 := by rw [hx]; exact World.cell?_setCell_same' _ _ _ (by rw [h.c3]; rfl)
          c4 := by rw [World.cell?_setCell_other _ _ _ _ (fun q => by injection q with _ q; omega), hd]; exact h.c4
          f3 := by rw [World.frozen?_setCell]; exact h.f3
          f4 := by rw [World.frozen?_setCell]; exact h.f4
          rows := by rw [hl]; exact h.rows.block (hbk a (Ne.symm h.ra))
          new := ⟨new, hn.rows.block (hbk b (Ne.symm h.rb)), by rw [hl]; exact hn.len, fun i p hp => hn.held i p (by unfold Dk.cacheAt at hp ⊢; rw [← hcc]; exact hp)⟩
          on := by rw [hon]; exact h.on.block (hbk c (Ne.symm h.rc)) }
theorem RefAt.setDown {w : World} {r a b c : Nat} {s s' : Dk.St} (h : RefAt w r a b c s) (d : Bool) (hok : s'.Ok) (hl : s'.last = s.last) (hcc : s'.cache = s.cache) (hx : leftOf s' = leftOf s) (hd : s'.down = d) :
    RefAt (w.setCell ⟨r, 4, none⟩ (.bool d)) r a b c s' := by
  obtain ⟨new, hn⟩ := h.new
  have hbk : ∀ k, k ≠ r → (w.setCell ⟨r, 4, none⟩ (.bool d)).heap[k]? = w.heap[k]? := fun k hk => Below.heap_setCell _ _ _ _ hk
  have hon : onOf s' = onOf s := by unfold onOf; rw [hcc]
  exact { ok := hok, ra := h.ra, rb := h.rb, rc := h.rc, ab := h.ab, ac := h.ac, bc := h.bc
          c0 := by rw [World.cell?_setCell_other _ _ _ _ (fun q => by injection q with _ q; omega), hl]; exact h.c0
          c1 := by rw [World.cell?_setCell_other _ _ _ _ (fun q => by injection q with _ q; omega), hl]; exact h.c1
          c2 := by rw [World.cell?_setCell_other _ _ _ _ (fun q => by injection q with _ q; omega), hl]; exact h.c2
          c3 := by rw [World.cell?_setCell_other _ _ _ _ (fun q => by injection q with _ q; omega), hx]; exact h.c3
          c4 := by rw [hd]; exact World.cell?_setCell_same' _ _ _ (by rw [h.c4]; rfl)
          f3 := by rw [World.frozen?_setCell]; exact h.f3
          f4 := by rw [World.frozen?_setCell]; exact h.f4
          rows := by rw [hl]; exact h.rows.block (hbk a (Ne.symm h.ra))
          new := ⟨new, hn.rows.block (hbk b (Ne.symm h.rb)), by rw [hl]; exact hn.len, fun i p hp => hn.held i p (by unfold Dk.cacheAt at hp ⊢; rw [← hcc]; exact hp)⟩
          on := by rw [hon]; exact h.on.block (hbk c (Ne.symm h.rc)) }

theorem RowsAt.setOther {w : World} {b : Nat} {ps : List (List UInt8)} (h : RowsAt w b ps) {x : Addr} (hx : b ≠ x.block) (v : Value) : RowsAt (w.setCell x v) b ps := h.block (Below.heap_setCell _ _ _ _ hx)
theorem RowsAt.putOther {w : World} {b : Nat} {ps : List (List UInt8)} (h : RowsAt w b ps) {b' : Nat} (hx : b ≠ b') (o : Nat) (vs : List Value) : RowsAt (w.setCells b' o vs) b ps := h.block (heap_setCells_other b' vs o w b hx)
/-- a page was written -/
theorem RefAt.put {w : World} {r a b c : Nat} {s : Dk.St} (h : RefAt w r a b c s) (i : Nat) (hi : i < s.last.length) {p : List UInt8} (hp : p.length = 64) :
    RefAt ((w.setCells b (i * 64) (byteVals p)).setCell ⟨c, i, none⟩ (.bool true)) r a b c (Dk.put s i p) := by
  obtain ⟨new, hn⟩ := h.new
  have hbk : ∀ k, k ≠ b → k ≠ c → ((w.setCells b (i * 64) (byteVals p)).setCell ⟨c, i, none⟩ (.bool true)).heap[k]? = w.heap[k]? := fun k hk hk2 => (Below.heap_setCell _ _ _ _ hk2).trans (heap_setCells_other b _ _ w k hk)
  have hon : onOf (Dk.put s i p) = (onOf s).set i true := by unfold onOf Dk.put; rw [List.map_set]; rfl
  refine h.renew (hbk r h.rb h.rc) (Dk.put_ok h.ok i hp) rfl rfl rfl (h.rows.block (hbk a h.ab h.ac)) ⟨new.set i p, ?_, by rw [List.length_set]; exact hn.len, ?_⟩ ?_
  · exact (hn.rows.put i (by rw [hn.len]; exact hi) p hp).setOther (x := ⟨c, i, none⟩) h.bc _
  · intro j q hq
    unfold Dk.cacheAt Dk.put at hq
    rw [List.getD_eq_getElem?_getD, List.getElem?_set] at hq
    rw [List.getElem?_set]
    by_cases e : i = j
    · subst e
      rw [if_pos rfl, if_pos (by rw [h.ok.same]; exact hi)] at hq
      rw [if_pos rfl, if_pos (by rw [hn.len]; exact hi)]
      simpa using hq
    · rw [if_neg e, ← List.getD_eq_getElem?_getD] at hq
      rw [if_neg e]
      exact hn.held j q hq
  · rw [hon]
    exact (h.on.block (heap_setCells_other b _ _ w c (Ne.symm h.bc))).set i (by rw [h.n]; exact hi) true
/-- a page of the cache lasts (what it is made of is handed in), and is out of the cache -/
theorem RefAt.settle {w : World} {r a b c : Nat} {s : Dk.St} (h : RefAt w r a b c s) (i : Nat) (hi : i < s.last.length) {p : List UInt8} (hp : p.length = 64) {w' : World} (hr : w'.heap[r]? = w.heap[r]?) (hb : w'.heap[b]? = w.heap[b]?) (hc : w'.heap[c]? = w.heap[c]?) (hrows : RowsAt w' a (s.last.set i p)) :
    RefAt (w'.setCell ⟨c, i, none⟩ (.bool false)) r a b c { s with last := s.last.set i p, cache := s.cache.set i none } := by
  obtain ⟨new, hn⟩ := h.new
  have hbk : ∀ k, k ≠ c → (w'.setCell ⟨c, i, none⟩ (.bool false)).heap[k]? = w'.heap[k]? := fun k hk => Below.heap_setCell _ _ _ _ hk
  have hon : onOf { s with last := s.last.set i p, cache := s.cache.set i none } = (onOf s).set i false := by unfold onOf; rw [List.map_set]; rfl
  refine h.renew ((hbk r h.rc).trans hr) ?_ (by simp) rfl rfl (hrows.block (hbk a h.ac)) ⟨new, hn.rows.block ((hbk b h.bc).trans hb), by simp; exact hn.len, ?_⟩ ?_
  · refine ⟨by simp; exact h.ok.same, by simpa using h.ok.pos, by simpa using h.ok.small, ?_, ?_, h.ok.lo, h.ok.hi, h.ok.live⟩
    · intro q hq
      rcases List.mem_or_eq_of_mem_set hq with h1 | h1
      · exact h.ok.pages q h1
      · rw [h1]; exact hp
    · intro q hq
      rcases List.mem_or_eq_of_mem_set hq with h1 | h1
      · exact h.ok.cpages q h1
      · cases h1
  · intro j q hq
    unfold Dk.cacheAt at hq
    rw [List.getD_eq_getElem?_getD, List.getElem?_set] at hq
    by_cases e : i = j
    · subst e
      rw [if_pos rfl] at hq
      split at hq <;> cases hq
    · rw [if_neg e, ← List.getD_eq_getElem?_getD] at hq
      exact hn.held j q hq
  · rw [hon]
    exact (h.on.block hc).set i (by rw [h.n]; exact hi) false
end Go.Proofs.Ytaiikpfgnamgiaa
