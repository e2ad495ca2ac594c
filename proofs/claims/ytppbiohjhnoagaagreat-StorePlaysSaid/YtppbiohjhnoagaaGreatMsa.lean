/-
  Plain mathematics of a store: pages by their numbers, the changes that they come to, what each call does. Nothing of the program is in it.
-/
import Derived.Test.YtppbiohjhnoagaaGreatMje
import Derived.BigQuiet
import Derived.Deep.QuietTactic
namespace Go.Proofs.YtppbiohjhnoagaaGreat
open Dk (zeros zeros_length)
open Jn (Chg)

abbrev Pgs : Type := List (Option (List UInt8))
def cntO (c : Pgs) : Nat := c.countP (·.isSome)
def noPgs (n : Nat) : Pgs := List.replicate n none
def chgsFrom : Nat → Pgs → List Chg
  | _, [] => []
  | i, none :: r => chgsFrom (i + 1) r
  | i, some p :: r => ⟨(i : Int), p⟩ :: chgsFrom (i + 1) r
def chgs (c : Pgs) : List Chg := chgsFrom 0 c
theorem chgsFrom_length : ∀ (c : Pgs) (i : Nat), (chgsFrom i c).length = cntO c
  | [], _ => rfl
  | none :: r, i => by
    rw [chgsFrom, chgsFrom_length r (i + 1)]; unfold cntO; simp
  | some p :: r, i => by
    rw [chgsFrom, List.length_cons, chgsFrom_length r (i + 1)]; unfold cntO; simp
theorem chgs_length (c : Pgs) : (chgs c).length = cntO c := chgsFrom_length c 0
theorem chgsFrom_mem : ∀ (c : Pgs) (i : Nat) (x : Chg), x ∈ chgsFrom i c ↔ ∃ k : Nat, x.no = ((i + k : Nat) : Int) ∧ c.getD k none = some x.page
  | [], i, x => by simp [chgsFrom]
  | none :: r, i, x => by
    rw [chgsFrom, chgsFrom_mem r (i + 1) x]
    constructor
    · rintro ⟨k, h1, h2⟩
      exact ⟨k + 1, by rw [h1]; congr 1; omega, by simpa using h2⟩
    · rintro ⟨k, h1, h2⟩
      cases k with
      | zero => simp at h2
      | succ k => exact ⟨k, by rw [h1]; congr 1; omega, by simpa using h2⟩
  | some p :: r, i, x => by
    rw [chgsFrom, List.mem_cons, chgsFrom_mem r (i + 1) x]
    constructor
    · rintro (rfl | ⟨k, h1, h2⟩)
      · exact ⟨0, rfl, rfl⟩
      · exact ⟨k + 1, by rw [h1]; congr 1; omega, by simpa using h2⟩
    · rintro ⟨k, h1, h2⟩
      cases k with
      | zero =>
        left
        cases x with
        | mk no page =>
          simp at h1 h2
          rw [h1, h2]
      | succ k => exact Or.inr ⟨k, by rw [h1]; congr 1; omega, by simpa using h2⟩
theorem chgs_mem {c : Pgs} {x : Chg} : x ∈ chgs c ↔ ∃ k : Nat, x.no = (k : Int) ∧ c.getD k none = some x.page := by
  unfold chgs
  rw [chgsFrom_mem]
  simp only [Nat.zero_add]
theorem chgsFrom_pw : ∀ (c : Pgs) (i : Nat), (chgsFrom i c).Pairwise (fun x y => x.no < y.no)
  | [], _ => List.Pairwise.nil
  | none :: r, i => by rw [chgsFrom]; exact chgsFrom_pw r (i + 1)
  | some p :: r, i => by
    rw [chgsFrom]
    refine List.Pairwise.cons (fun x hx => ?_) (chgsFrom_pw r (i + 1))
    obtain ⟨k, h1, _⟩ := (chgsFrom_mem r (i + 1) x).1 hx
    show (i : Int) < x.no
    rw [h1]; omega
theorem chgs_pw (c : Pgs) : (chgs c).Pairwise (fun x y => x.no < y.no) := chgsFrom_pw c 0
theorem cntO_no (n : Nat) : cntO (noPgs n) = 0 := by unfold cntO noPgs; simp [List.countP_replicate]
theorem noPgs_at (n i : Nat) : (noPgs n).getD i none = none := by
  unfold noPgs
  rw [List.getD_eq_getElem?_getD, List.getElem?_replicate]
  split <;> rfl
theorem cntO_zero {c : Pgs} (h : cntO c = 0) : c = noPgs c.length := by
  unfold cntO at h
  rw [List.countP_eq_zero] at h
  unfold noPgs
  rw [List.eq_replicate_iff]
  refine ⟨rfl, fun x hx => ?_⟩
  have := h x hx
  cases x with
  | none => rfl
  | some p => simp at this
theorem pgs_lt {c : Pgs} {k : Nat} {p : List UInt8} (h : c.getD k none = some p) : k < c.length := by
  rw [List.getD_eq_getElem?_getD] at h
  by_cases hk : k < c.length
  · exact hk
  · rw [List.getElem?_eq_none (by omega)] at h; cases h
theorem pgs_ext {a b : Pgs} (hl : a.length = b.length) (h : ∀ i, i < a.length → a.getD i none = b.getD i none) : a = b := Jn.getD_ext none hl h
theorem pgs_set_at (c : Pgs) (i j : Nat) (p : List UInt8) (hi : i < c.length) : (c.set i (some p)).getD j none = if i = j then some p else c.getD j none := by
  rw [List.getD_eq_getElem?_getD, List.getElem?_set]
  by_cases e : i = j
  · rw [if_pos e, if_pos hi, if_pos e]; rfl
  · rw [if_neg e, if_neg e, List.getD_eq_getElem?_getD]

/-- the group with the step's -/
def joinP (g t : Pgs) : Pgs := (List.range g.length).map fun i => (t.getD i none).or (g.getD i none)
theorem joinP_length (g t : Pgs) : (joinP g t).length = g.length := by unfold joinP; simp
theorem joinP_at (g t : Pgs) (i : Nat) (hi : i < g.length) : (joinP g t).getD i none = (t.getD i none).or (g.getD i none) := by
  unfold joinP
  rw [List.getD_eq_getElem?_getD, List.getElem?_map, List.getElem?_range hi]; rfl

/-! ### a store -/
structure Sto where
  dk : Dk.St
  a : Nat
  z : Nat
  r : Nat
  q : Int
  over : Bool
  step : Pgs
  group : Pgs
def pagesOk (n a z : Nat) (c : Pgs) : Prop := ∀ k p, c.getD k none = some p → p.length = 64 ∧ otherB n a z (k : Int) = true
structure Sto.Ok (s : Sto) : Prop where
  slen : s.step.length = s.dk.last.length
  glen : s.group.length = s.dk.last.length
  spg : pagesOk s.dk.last.length s.a s.z s.step
  gpg : pagesOk s.dk.last.length s.a s.z s.group
  scnt : cntO s.step ≤ s.r
  gcnt : cntO s.group ≤ s.r
  a9 : s.a ≤ 900
  z9 : s.z ≤ 900
  reg : s.a + s.z ≤ s.dk.last.length
  room : RoomIs s.z s.r
  r1 : 1 ≤ s.r
  r32 : s.r ≤ 32
  rz : 2 + s.r ≤ s.z

def sreachE (s : Sto) (i : Int) : Int := if s.over = true then 5 else if otherB s.dk.last.length s.a s.z i = true then 0 else 22
def sheld (s : Sto) (i : Nat) : Option (List UInt8) := (s.step.getD i none).or (s.group.getD i none)
def sreadP (s : Sto) (i : Int) : List UInt8 := if sreachE s i = 0 then (sheld s i.toNat).getD (Dk.readP s.dk i) else zeros
def sreadE (s : Sto) (i : Int) : Int := if sreachE s i = 0 then (if (sheld s i.toNat).isSome = true then 0 else Dk.reachE s.dk i) else sreachE s i
def sputE (s : Sto) (i : Int) : Int := if sreachE s i = 0 then (if (s.step.getD i.toNat none).isSome = false ∧ s.r ≤ cntO s.step then 28 else 0) else sreachE s i
def sput (s : Sto) (i : Int) (p : List UInt8) : Sto := if sputE s i = 0 then { s with step := s.step.set i.toNat (some p) } else s
def sdrop (s : Sto) : Sto := { s with step := noPgs s.dk.last.length }
def srun (s : Sto) : Dk.St × Int := Jn.runs s.dk (Jn.steps s.a s.q (chgs s.group))
def ssyncE (s : Sto) : Int := if s.over = true then 5 else if cntO s.group = 0 then 0 else (srun s).2
/-- behind a commit of the group -/
def scommit (s : Sto) : Sto := { s with dk := (srun s).1, over := (srun s).2 != 0, q := s.q + 2 }
def ssync (s : Sto) : Sto :=
  if s.over = true then s
  else if cntO s.group = 0 then s
  else if (srun s).2 = 0 then { scommit s with group := noPgs s.dk.last.length }
  else scommit s
def stog (s : Sto) : Nat := cntO (joinP s.group s.step)
def sjoin (s : Sto) : Sto := { s with group := joinP s.group s.step, step := noPgs s.dk.last.length }
def skeepE (s : Sto) : Int := if s.over = true then 5 else if s.r < stog s then ssyncE s else 0
def skeep (s : Sto) : Sto :=
  if s.over = true then s
  else if s.r < stog s then (if ssyncE s = 0 then sjoin (ssync s) else ssync s)
  else sjoin s
end Go.Proofs.YtppbiohjhnoagaaGreat

/-
  A store in memory.
-/
namespace Go.Proofs.YtppbiohjhnoagaaGreat
open Go.RowKit Go.Maps
open Dk (zeros zeros_length)
open Jn (Chg)

/-- a store's blocks: its own, the journal's, the disk's three, the step's, the group's -/
structure Blk where
  s : Nat
  j : Nat
  d : Nat
  l : Nat
  m : Nat
  t : Nat
  g : Nat
def Blk.all (b : Blk) : List Nat := [b.s, b.j, b.d, b.l, b.m, b.t, b.g]
def stVals (b : Blk) (a z : Nat) : List Value := [.pointer (some ⟨b.j, 0, none⟩), .pointer (some ⟨b.d, 0, none⟩), .int .i64 (a : Int), .int .i64 (z : Int), .map (some b.t), .map (some b.g)]
structure StoreAt (w : World) (b : Blk) (s : Sto) : Prop where
  row : RowAt w b.s (stVals b s.a s.z)
  ja : ∃ q, JAt w b.j b.d s.a s.z q s.over ∧ (s.over = false → q = s.q)
  disk : DiskAt w b.d b.l b.m s.dk
  step : MapAt w b.t s.step
  group : MapAt w b.g s.group
  nd : b.all.Nodup
  ok : s.Ok
theorem StoreAt.c0 {w : World} {b : Blk} {s : Sto} (h : StoreAt w b s) : w.cell? ⟨b.s, 0, none⟩ = some (.pointer (some ⟨b.j, 0, none⟩)) := h.row.cell 0 _ rfl
theorem StoreAt.c1 {w : World} {b : Blk} {s : Sto} (h : StoreAt w b s) : w.cell? ⟨b.s, 1, none⟩ = some (.pointer (some ⟨b.d, 0, none⟩)) := h.row.cell 1 _ rfl
theorem StoreAt.c2 {w : World} {b : Blk} {s : Sto} (h : StoreAt w b s) : w.cell? ⟨b.s, 2, none⟩ = some (.int .i64 (s.a : Int)) := h.row.cell 2 _ rfl
theorem StoreAt.c3 {w : World} {b : Blk} {s : Sto} (h : StoreAt w b s) : w.cell? ⟨b.s, 3, none⟩ = some (.int .i64 (s.z : Int)) := h.row.cell 3 _ rfl
theorem StoreAt.c4 {w : World} {b : Blk} {s : Sto} (h : StoreAt w b s) : w.cell? ⟨b.s, 4, none⟩ = some (.map (some b.t)) := h.row.cell 4 _ rfl
theorem StoreAt.c5 {w : World} {b : Blk} {s : Sto} (h : StoreAt w b s) : w.cell? ⟨b.s, 5, none⟩ = some (.map (some b.g)) := h.row.cell 5 _ rfl
theorem StoreAt.lt {w : World} {b : Blk} {s : Sto} (h : StoreAt w b s) : ∀ k ∈ b.all, k < w.heap.size := by
  intro k hk
  obtain ⟨q, hj, _⟩ := h.ja
  unfold Blk.all at hk
  simp only [List.mem_cons, List.not_mem_nil, or_false] at hk
  rcases hk with rfl | rfl | rfl | rfl | rfl | rfl | rfl
  · exact h.row.lt
  · exact hj.lt
  · exact h.disk.dlt
  · exact h.disk.llt
  · exact h.disk.mlt
  · exact h.step.lt
  · exact h.group.lt
theorem StoreAt.blocks {w w' : World} {b : Blk} {s : Sto} (h : StoreAt w b s) (hb : ∀ k ∈ b.all, w'.heap[k]? = w.heap[k]?) : StoreAt w' b s := by
  obtain ⟨q, hj, hq⟩ := h.ja
  have e : ∀ k, k ∈ b.all → w'.heap[k]? = w.heap[k]? := hb
  exact ⟨h.row.block (e _ (by simp [Blk.all])), ⟨q, hj.block (e _ (by simp [Blk.all])), hq⟩, h.disk.blocks (e _ (by simp [Blk.all])) (e _ (by simp [Blk.all])) (e _ (by simp [Blk.all])), h.step.block (e _ (by simp [Blk.all])), h.group.block (e _ (by simp [Blk.all])), h.nd, h.ok⟩
theorem StoreAt.only {w w' : World} {b : Blk} {s : Sto} {L : List Nat} (h : StoreAt w b s) (ho : Only L w w') (hL : ∀ k ∈ b.all, k ∉ L) : StoreAt w' b s :=
  h.blocks fun k hk => ho.block k (h.lt k hk) (hL k hk)
theorem StoreAt.below {w w' : World} {b : Blk} {s : Sto} (h : StoreAt w b s) (hb : Below w.heap.size w w') : StoreAt w' b s := h.blocks fun k hk => hb.block k (h.lt k hk)
theorem StoreAt.alloc {w : World} {b : Blk} {s : Sto} (h : StoreAt w b s) (o : Obj) : StoreAt (w.alloc o) b s := h.below ((Below.refl _ _).alloc (Nat.le_refl _) _)
theorem StoreAt.drewN {w : World} {b : Blk} {s : Sto} (h : StoreAt w b s) (n : Nat) : StoreAt (w.drewN n) b s := h.blocks fun _ _ => rfl
theorem StoreAt.drew {w : World} {b : Blk} {s : Sto} (h : StoreAt w b s) : StoreAt w.drew b s := h.blocks fun _ _ => rfl
theorem Blk.ne {b : Blk} (h : b.all.Nodup) : b.s ≠ b.j ∧ b.s ≠ b.d ∧ b.s ≠ b.l ∧ b.s ≠ b.m ∧ b.s ≠ b.t ∧ b.s ≠ b.g ∧ b.j ≠ b.d ∧ b.j ≠ b.l ∧ b.j ≠ b.m ∧ b.j ≠ b.t ∧ b.j ≠ b.g ∧ b.d ≠ b.t ∧ b.d ≠ b.g ∧ b.l ≠ b.t ∧ b.l ≠ b.g ∧ b.m ≠ b.t ∧ b.m ≠ b.g ∧ b.t ≠ b.g := by
  unfold Blk.all at h
  simp only [List.nodup_cons, List.mem_cons, List.not_mem_nil, or_false, not_or] at h
  obtain ⟨⟨h1, h2, h3, h4, h5, h6⟩, ⟨h7, h8, h9, h10, h11⟩, ⟨h12, h13, h14, h15⟩, ⟨h16, h17, h18⟩, ⟨h19, h20⟩, h21, _⟩ := h
  exact ⟨h1, h2, h3, h4, h5, h6, h7, h8, h9, h10, h11, h14, h15, h17, h18, h19, h20, h21⟩
/-- the step's map is another one -/
theorem StoreAt.setStep {w w' : World} {b : Blk} {s : Sto} (h : StoreAt w b s) (ho : Only [b.t] w w') {c : Pgs} (hm : MapAt w' b.t c) (hok : Sto.Ok { s with step := c }) : StoreAt w' b { s with step := c } := by
  obtain ⟨q, hj, hq⟩ := h.ja
  have ne := Blk.ne h.nd
  have e : ∀ k, k ∈ b.all → k ≠ b.t → w'.heap[k]? = w.heap[k]? := fun k hk hn => ho.block k (h.lt k hk) (by simpa using hn)
  exact ⟨h.row.block (e _ (by simp [Blk.all]) ne.2.2.2.2.1), ⟨q, hj.block (e _ (by simp [Blk.all]) (by omega)), hq⟩, h.disk.blocks (e _ (by simp [Blk.all]) (by omega)) (e _ (by simp [Blk.all]) (by omega)) (e _ (by simp [Blk.all]) (by omega)), hm, h.group.block (e _ (by simp [Blk.all]) (by omega)), h.nd, hok⟩
/-- the group's map is another one -/
theorem StoreAt.setGroup {w w' : World} {b : Blk} {s : Sto} (h : StoreAt w b s) (ho : Only [b.g] w w') {c : Pgs} (hm : MapAt w' b.g c) (hok : Sto.Ok { s with group := c }) : StoreAt w' b { s with group := c } := by
  obtain ⟨q, hj, hq⟩ := h.ja
  have ne := Blk.ne h.nd
  have e : ∀ k, k ∈ b.all → k ≠ b.g → w'.heap[k]? = w.heap[k]? := fun k hk hn => ho.block k (h.lt k hk) (by simpa using hn)
  exact ⟨h.row.block (e _ (by simp [Blk.all]) (by omega)), ⟨q, hj.block (e _ (by simp [Blk.all]) (by omega)), hq⟩, h.disk.blocks (e _ (by simp [Blk.all]) (by omega)) (e _ (by simp [Blk.all]) (by omega)) (e _ (by simp [Blk.all]) (by omega)), h.step.block (e _ (by simp [Blk.all]) (by omega)), hm, h.nd, hok⟩

/-! ### what is kept of a store -/
theorem pagesOk_no (n a z k : Nat) : pagesOk n a z (noPgs k) := fun i p h => by rw [noPgs_at] at h; cases h
theorem pagesOk_set {n a z : Nat} {c : Pgs} (h : pagesOk n a z c) {i : Nat} {p : List UInt8} (hi : i < c.length) (hp : p.length = 64) (ho : otherB n a z (i : Int) = true) : pagesOk n a z (c.set i (some p)) := fun k x hx => by
  rw [pgs_set_at _ _ _ _ hi] at hx
  by_cases e : i = k
  · rw [if_pos e] at hx
    injection hx with hx
    subst hx; subst e
    exact ⟨hp, ho⟩
  · rw [if_neg e] at hx; exact h k x hx
theorem pagesOk_join {n a z : Nat} {g t : Pgs} (hg : pagesOk n a z g) (ht : pagesOk n a z t) : pagesOk n a z (joinP g t) := fun k p hp => by
  have hk := pgs_lt hp
  rw [joinP_length] at hk
  rw [joinP_at _ _ _ hk] at hp
  cases e : t.getD k none with
  | some x => rw [e] at hp; injection hp with hp; subst hp; exact ht k x e
  | none => rw [e] at hp; exact hg k p hp
theorem sdrop_ok {s : Sto} (h : s.Ok) : (sdrop s).Ok := ⟨List.length_replicate, h.glen, pagesOk_no _ _ _ _, h.gpg, by show cntO (noPgs _) ≤ _; rw [cntO_no]; exact Nat.zero_le _, h.gcnt, h.a9, h.z9, h.reg, h.room, h.r1, h.r32, h.rz⟩
theorem cntO_set (c : Pgs) (i : Nat) (p : List UInt8) (hi : i < c.length) : cntO (c.set i (some p)) = if (c.getD i none).isSome then cntO c else cntO c + 1 := count_set c i p hi
theorem sput_ok {s : Sto} (h : s.Ok) {i : Nat} {p : List UInt8} (hp : p.length = 64) (hr : otherB s.dk.last.length s.a s.z (i : Int) = true) (hf : ¬ ((s.step.getD i none).isSome = false ∧ s.r ≤ cntO s.step)) : Sto.Ok { s with step := s.step.set i (some p) } := by
  have hi : i < s.step.length := by
    have := of_decide_eq_true hr
    rw [h.slen]; omega
  refine ⟨by show (s.step.set _ _).length = _; rw [List.length_set]; exact h.slen, h.glen, pagesOk_set h.spg hi hp hr, h.gpg, ?_, h.gcnt, h.a9, h.z9, h.reg, h.room, h.r1, h.r32, h.rz⟩
  show cntO (s.step.set i (some p)) ≤ s.r
  rw [cntO_set _ _ _ hi]
  have := h.scnt
  cases e : (s.step.getD i none).isSome with
  | true => rw [if_pos rfl]; exact this
  | false =>
    have : ¬ s.r ≤ cntO s.step := fun g => hf ⟨e, g⟩
    rw [if_neg (by simp)]; omega
theorem sjoin_ok {s : Sto} (h : s.Ok) (hc : stog s ≤ s.r) : (sjoin s).Ok :=
  ⟨List.length_replicate, by show (joinP _ _).length = _; rw [joinP_length]; exact h.glen, pagesOk_no _ _ _ _, pagesOk_join h.gpg h.spg, by show cntO (noPgs _) ≤ _; rw [cntO_no]; exact Nat.zero_le _, hc, h.a9, h.z9, h.reg, h.room, h.r1, h.r32, h.rz⟩
theorem runW_len (cs : List Chg) : ∀ s : Dk.St, (Jn.runW s cs).1.last.length = s.last.length := by
  induction cs with
  | nil => intro s; exact Dk.flush_len s
  | cons c r ih =>
    intro s
    unfold Jn.runW
    split
    · rw [ih, Dk.write_len]
    · exact Dk.write_len s _ _
theorem runs_len (ls : List (List Chg)) : ∀ s : Dk.St, (Jn.runs s ls).1.last.length = s.last.length := by
  induction ls with
  | nil => intro s; rfl
  | cons l r ih =>
    intro s
    unfold Jn.runs
    split
    · rw [ih, runW_len]
    · exact runW_len l s
theorem srun_len (s : Sto) : (srun s).1.last.length = s.dk.last.length := runs_len _ _
theorem scommit_ok {s : Sto} (h : s.Ok) : (scommit s).Ok := by
  refine ⟨by show s.step.length = _; rw [h.slen]; exact (srun_len s).symm, by show s.group.length = _; rw [h.glen]; exact (srun_len s).symm, ?_, ?_, h.scnt, h.gcnt, h.a9, h.z9, by show s.a + s.z ≤ _; unfold scommit; rw [srun_len]; exact h.reg, h.room, h.r1, h.r32, h.rz⟩
  · show pagesOk (srun s).1.last.length _ _ _
    rw [srun_len]; exact h.spg
  · show pagesOk (srun s).1.last.length _ _ _
    rw [srun_len]; exact h.gpg
theorem sclear_ok {s : Sto} (h : s.Ok) {n : Nat} (hn : n = s.dk.last.length) : Sto.Ok { s with group := noPgs n } :=
  ⟨h.slen, by show (noPgs n).length = _; unfold noPgs; rw [List.length_replicate]; exact hn, h.spg, pagesOk_no _ _ _ _, h.scnt, by show cntO (noPgs _) ≤ _; rw [cntO_no]; exact Nat.zero_le _, h.a9, h.z9, h.reg, h.room, h.r1, h.r32, h.rz⟩
theorem ssync_ok {s : Sto} (h : s.Ok) : (ssync s).Ok := by
  unfold ssync
  split
  · exact h
  · split
    · exact h
    · split
      · exact sclear_ok (scommit_ok h) (srun_len s).symm
      · exact scommit_ok h
theorem ssync_fine {s : Sto} (_h : s.Ok) (he : ssyncE s = 0) : s.over = false ∧ cntO (ssync s).group = 0 ∧ (ssync s).over = false ∧ (ssync s).step = s.step ∧ (ssync s).r = s.r := by
  have ho : s.over = false := by
    cases e : s.over with
    | false => rfl
    | true => unfold ssyncE at he; rw [if_pos e] at he; cases he
  have hn : ¬ s.over = true := by rw [ho]; simp
  refine ⟨ho, ?_⟩
  unfold ssyncE at he
  rw [if_neg hn] at he
  unfold ssync
  rw [if_neg hn]
  by_cases c : cntO s.group = 0
  · rw [if_pos c]; exact ⟨c, ho, rfl, rfl⟩
  · rw [if_neg c] at he
    rw [if_neg c, if_pos he]
    refine ⟨cntO_no _, ?_, rfl, rfl⟩
    show ((srun s).2 != 0) = false
    rw [he]; rfl
/-- the group's changes may be committed -/
theorem takesFrom_mk {n a z : Nat} (cs : List Chg) : ∀ (f : Nat → Bool), cs.Pairwise (fun x y => x.no < y.no) → (∀ c ∈ cs, otherB n a z c.no = true ∧ f c.no.toNat = false) → takesFrom n a z f cs = true := by
  induction cs with
  | nil => intro f _ _; rfl
  | cons c r ih =>
    intro f hp hc
    obtain ⟨h1, h2⟩ := hc c (by simp)
    rw [takes_ok h1 h2]
    obtain ⟨p1, p2⟩ := List.pairwise_cons.1 hp
    refine ih _ p2 (fun x hx => ⟨(hc x (by simp [hx])).1, ?_⟩)
    have g1 := of_decide_eq_true h1
    have g2 := of_decide_eq_true (hc x (by simp [hx])).1
    have g3 := p1 x hx
    unfold mark
    rw [(hc x (by simp [hx])).2, Bool.or_false, beq_eq_false_iff_ne]
    omega
theorem chgs_takes {n a z : Nat} {c : Pgs} (h : pagesOk n a z c) : takesB n a z (chgs c) = true := by
  refine takesFrom_mk _ _ (chgs_pw c) (fun x hx => ?_)
  obtain ⟨k, h1, h2⟩ := chgs_mem.1 hx
  exact ⟨by rw [h1]; exact (h k _ h2).2, rfl⟩
theorem chgs_pages {n a z : Nat} {c : Pgs} (h : pagesOk n a z c) : ∀ x ∈ chgs c, x.page.length = 64 := fun x hx => by
  obtain ⟨k, _, h2⟩ := chgs_mem.1 hx
  exact (h k _ h2).1
theorem stog_step {s : Sto} (h : s.Ok) (hg : cntO s.group = 0) : stog s = cntO s.step := by
  unfold stog
  have : joinP s.group s.step = s.step := by
    refine pgs_ext (by rw [joinP_length, h.glen, h.slen]) (fun i hi => ?_)
    rw [joinP_length] at hi
    rw [joinP_at _ _ _ hi, cntO_zero hg, noPgs_at]
    cases s.step.getD i none <;> rfl
  rw [this]
theorem sjoin_sync {s : Sto} (h : s.Ok) (he : ssyncE s = 0) : stog (ssync s) ≤ (ssync s).r := by
  obtain ⟨_, h1, _, h3, h4⟩ := ssync_fine h he
  rw [stog_step (ssync_ok h) h1, h3, h4]
  exact h.scnt
end Go.Proofs.YtppbiohjhnoagaaGreat

/-
  The contracts of a store's small calls: Over, reach, Step, Group, Drop.
-/
namespace Go.Proofs.YtppbiohjhnoagaaGreat
open Go.RowKit Go.Maps
open Dk (zeros zeros_length)
open Jn (Chg)

theorem below_drewN {n : Nat} (w : World) (k : Nat) : Below n w (w.drewN k) := ⟨rfl, rfl, rfl, Nat.le_refl _, fun _ _ => rfl⟩
theorem sover_nil (w : World) : Calls Tryz.prog 23 #[.pointer none] w fun e w' => e = .returned (.bool true) ∧ w = w' := by
  go_enter Tryz.func23, Tryz.ntmps23
  go_wp2
  go_ret
  exact ⟨rfl, rfl⟩
set_option maxRecDepth 100000 in
theorem sover_any {w : World} {b : Blk} {s : Sto} (h : StoreAt w b s) : Calls Tryz.prog 23 #[.pointer (some ⟨b.s, 0, none⟩)] w fun e w' => e = .returned (.bool s.over) ∧ w = w' := by
  obtain ⟨q, hj, _⟩ := h.ja
  have HO := Lib.hid (over_any hj)
  have c0 := h.c0
  clear h hj
  go_enter Tryz.func23, Tryz.ntmps23
  go_wp2_with (go_at_call 43; refine HO.out.mono ?_; rintro e w' ⟨rfl, rfl⟩)
  go_ret
  exact ⟨rfl, rfl⟩
theorem sreach_nil (i : Int) (w : World) : Calls Tryz.prog 29 #[.pointer none, .int .i64 i] w fun e w' => e = .returned (.int .i64 5) ∧ w = w' := by
  go_enter Tryz.func29, Tryz.ntmps29
  go_wp2_with (go_at_call 23; refine (sover_nil _).mono ?_; rintro e w' ⟨rfl, rfl⟩)
  go_ret
  exact ⟨rfl, rfl⟩
set_option maxRecDepth 100000 in
set_option maxHeartbeats 2000000 in
theorem sreach_any {w : World} {b : Blk} {s : Sto} (h : StoreAt w b s) (i : Int) : Calls Tryz.prog 29 #[.pointer (some ⟨b.s, 0, none⟩), .int .i64 i] w fun e w' => e = .returned (.int .i64 (sreachE s i)) ∧ Below w.heap.size w w' := by
  have HO := Lib.hid (sover_any h)
  have HP : Hid (∀ n, Calls Tryz.prog 47 #[.pointer (some ⟨b.d, 0, none⟩)] (w.drewN n) fun e w' => e = .returned (.int .i64 (s.dk.last.length : Int)) ∧ w' = w.drewN n) := Lib.hid (fun n => (pages_any (h.disk.drewN n)).mono fun e w' ⟨h1, h2⟩ => ⟨h1, h2.symm⟩)
  have c1 := h.c1
  have c2 := h.c2
  have c3 := h.c3
  have ha : (s.a : Int) ≤ 900 := by have := h.ok.a9; omega
  have hz : (s.z : Int) ≤ 900 := by have := h.ok.z9; omega
  clear h
  cases ho : s.over with
  | true =>
    rw [ho] at HO
    have HE : Hid (sreachE s i = 5) := Lib.hid (by unfold sreachE; rw [if_pos ho])
    rw [HE.out]
    clear ho HE
    go_enter Tryz.func29, Tryz.ntmps29
    go_wp2_with (go_at_call 23; refine HO.out.mono ?_; rintro e w' ⟨rfl, rfl⟩)
    go_ret
    exact ⟨rfl, Below.refl _ _⟩
  | false =>
    rw [ho] at HO
    have HE : Hid (sreachE s i = if otherB s.dk.last.length s.a s.z i = true then 0 else 22) := Lib.hid (by unfold sreachE; rw [if_neg (by rw [ho]; simp)])
    rw [HE.out]
    clear ho HE
    generalize s.dk.last.length = n at HP ⊢
    generalize s.a = a at *
    generalize s.z = z at *
    by_cases k1 : i < 0
    · have HE : Hid (otherB n a z i = false) := Lib.hid (by unfold otherB; rw [decide_eq_false_iff_not]; omega)
      rw [HE.out]
      go_enter Tryz.func29, Tryz.ntmps29
      go_wp2_with (go_at_call 23; refine HO.out.mono ?_; rintro e w' ⟨rfl, rfl⟩)
      go_quiet ((go_at_call 47; refine Calls.quiet_of_same (HP.out _)))
      go_wp2
      go_ret
      exact ⟨rfl, below_drewN _ _⟩
    · have k1' : decide (i < 0) = false := decide_eq_false k1
      by_cases k2 : (n : Int) ≤ i
      · have HE : Hid (otherB n a z i = false) := Lib.hid (by unfold otherB; rw [decide_eq_false_iff_not]; omega)
        rw [HE.out]
        go_enter Tryz.func29, Tryz.ntmps29
        go_wp2_with (go_at_call 23; refine HO.out.mono ?_; rintro e w' ⟨rfl, rfl⟩)
        go_quiet ((go_at_call 47; refine Calls.quiet_of_same (HP.out _)))
        go_wp2
        go_ret
        exact ⟨rfl, below_drewN _ _⟩
      · have k2' : decide ((n : Int) ≤ i) = false := decide_eq_false k2
        by_cases k3 : (a : Int) ≤ i
        · by_cases k4 : i < (a : Int) + (z : Int)
          · have HE : Hid (otherB n a z i = false) := Lib.hid (by unfold otherB; rw [decide_eq_false_iff_not]; omega)
            rw [HE.out]
            go_enter Tryz.func29, Tryz.ntmps29
            go_wp2_with (go_at_call 23; refine HO.out.mono ?_; rintro e w' ⟨rfl, rfl⟩)
            go_quiet ((go_at_call 47; refine Calls.quiet_of_same (HP.out _)))
            go_wp2
            go_ret
            exact ⟨rfl, below_drewN _ _⟩
          · have k4' : decide (i < (a : Int) + (z : Int)) = false := decide_eq_false k4
            have HE : Hid (otherB n a z i = true) := Lib.hid (by unfold otherB; rw [decide_eq_true_iff]; omega)
            rw [HE.out]
            go_enter Tryz.func29, Tryz.ntmps29
            go_wp2_with (go_at_call 23; refine HO.out.mono ?_; rintro e w' ⟨rfl, rfl⟩)
            go_quiet ((go_at_call 47; refine Calls.quiet_of_same (HP.out _)))
            go_wp2
            go_ret
            exact ⟨rfl, below_drewN _ _⟩
        · have k3' : decide ((a : Int) ≤ i) = false := decide_eq_false k3
          have HE : Hid (otherB n a z i = true) := Lib.hid (by unfold otherB; rw [decide_eq_true_iff]; omega)
          rw [HE.out]
          go_enter Tryz.func29, Tryz.ntmps29
          go_wp2_with (go_at_call 23; refine HO.out.mono ?_; rintro e w' ⟨rfl, rfl⟩)
          go_quiet ((go_at_call 47; refine Calls.quiet_of_same (HP.out _)))
          go_wp2
          go_ret
          exact ⟨rfl, below_drewN _ _⟩
theorem sstep_nil (w : World) : Calls Tryz.prog 24 #[.pointer none] w fun e w' => e = .returned (.int .i64 0) ∧ w = w' := by
  go_enter Tryz.func24, Tryz.ntmps24
  go_wp2
  go_ret
  exact ⟨rfl, rfl⟩
theorem sgroup_nil (w : World) : Calls Tryz.prog 25 #[.pointer none] w fun e w' => e = .returned (.int .i64 0) ∧ w = w' := by
  go_enter Tryz.func25, Tryz.ntmps25
  go_wp2
  go_ret
  exact ⟨rfl, rfl⟩
set_option maxRecDepth 100000 in
theorem sstep_any {w : World} {b : Blk} {s : Sto} (h : StoreAt w b s) : Calls Tryz.prog 24 #[.pointer (some ⟨b.s, 0, none⟩)] w fun e w' => e = .returned (.int .i64 (cntO s.step : Int)) ∧ w = w' := by
  have c4 := h.c4
  have hlen := h.step.len
  clear h
  unfold cntO
  generalize List.countP (fun x => x.isSome) s.step = k at hlen ⊢
  go_enter Tryz.func24, Tryz.ntmps24
  go_wp2
  go_ret
  exact ⟨rfl, rfl⟩
set_option maxRecDepth 100000 in
theorem sgroup_any {w : World} {b : Blk} {s : Sto} (h : StoreAt w b s) : Calls Tryz.prog 25 #[.pointer (some ⟨b.s, 0, none⟩)] w fun e w' => e = .returned (.int .i64 (cntO s.group : Int)) ∧ w = w' := by
  have c5 := h.c5
  have hlen := h.group.len
  clear h
  unfold cntO
  generalize List.countP (fun x => x.isSome) s.group = k at hlen ⊢
  go_enter Tryz.func25, Tryz.ntmps25
  go_wp2
  go_ret
  exact ⟨rfl, rfl⟩
theorem sdrop_nil (w : World) : Calls Tryz.prog 16 #[.pointer none] w fun e w' => e = .returned (.tuple #[]) ∧ w = w' := by
  go_enter Tryz.func16, Tryz.ntmps16
  go_wp2
  refine bodyPost_ret (results_none rfl _ _ _) rfl ?_
  exact ⟨rfl, rfl⟩
set_option maxRecDepth 100000 in
theorem sdrop_any {w : World} {b : Blk} {s : Sto} (h : StoreAt w b s) : Calls Tryz.prog 16 #[.pointer (some ⟨b.s, 0, none⟩)] w fun e w' => e = .returned (.tuple #[]) ∧ StoreAt w' b (sdrop s) ∧ Only [b.t] w w' := by
  have HH := Lib.hid h
  have c4 := h.c4
  obtain ⟨w2, hcl0, hmp, htn⟩ := h.step.clear s.dk.last.length 0
  have hcl : ∀ ty, (Builtin.clear_ #[65] ty #[.map (some b.t)]).run Tryz.prog w = .ok (.tuple #[]) w2 := fun ty => hcl0
  have HM := Lib.hid hmp
  have HT := Lib.hid htn
  clear h hcl0 hmp htn
  go_enter Tryz.func16, Tryz.ntmps16
  go_wp2
  go_end0
  have ho : Only [b.t] w w2 := Only.grown HT.out.grown (by simp)
  exact ⟨rfl, HH.out.setStep ho HM.out (sdrop_ok HH.out.ok), ho⟩
end Go.Proofs.YtppbiohjhnoagaaGreat

/-
  The contracts of a store's Read and Put.
-/
namespace Go.Proofs.YtppbiohjhnoagaaGreat
open Go.RowKit Go.Maps
open Dk (zeros zeros_length)
open Jn (Chg)

theorem sreach_zero {s : Sto} {i : Int} (h : sreachE s i = 0) : s.over = false ∧ otherB s.dk.last.length s.a s.z i = true := by
  unfold sreachE at h
  split at h
  · cases h
  · split at h
    · rename_i h1 h2; exact ⟨by simpa using h1, h2⟩
    · cases h
/-- behind the result's block and reach -/
structure RdAt (w : World) (b : Blk) (s : Sto) (W : World) : Prop where
  page : PageAt W w.heap.size zeros
  st : StoreAt W b s
  bel : Below w.heap.size w W
  lt : w.heap.size < W.heap.size
theorem rdAt_start {w : World} {b : Blk} {s : Sto} (h : StoreAt w b s) {W : World} (hb : Below (w.alloc (.cells zeroCells 38)).heap.size (w.alloc (.cells zeroCells 38)) W) : RdAt w b s W := by
  have hlt : w.heap.size < (w.alloc (.cells zeroCells 38)).heap.size := by simp
  exact ⟨(pageAt_zeros w 38).below hb hlt, (h.alloc _).below hb, ((Below.refl _ _).alloc (Nat.le_refl _) _).trans (hb.mono (by simp)), Nat.lt_of_lt_of_le hlt hb.size⟩
theorem RdAt.next {w : World} {b : Blk} {s : Sto} {W W' : World} (h : RdAt w b s W) (hb : Below W.heap.size W W') : RdAt w b s W' :=
  ⟨h.page.below hb h.lt, h.st.below hb, h.bel.trans (hb.mono h.bel.size), Nat.lt_of_lt_of_le h.lt hb.size⟩
set_option maxRecDepth 100000 in
set_option maxHeartbeats 400000 in
theorem sread_nil (i : Int) (w : World) : Calls Tryz.prog 12 #[.pointer none, .int .i64 i] w fun e w' => e = .returned (.tuple #[pageV zeros, .int .i64 5]) ∧ Below w.heap.size w w' := by
  have HZ := Lib.hid (pageAt_zeros w 38)
  have HB : Hid (Below w.heap.size w (w.alloc (.cells zeroCells 38))) := Lib.hid ((Below.refl _ _).alloc (Nat.le_refl _) _)
  go_enter Tryz.func12, Tryz.ntmps12
  go_wp2_with fail
  refine (sreach_nil _ _).mono ?_
  rintro e w' ⟨rfl, rfl⟩
  rw [← zeroCells_def]
  generalize w.alloc (.cells zeroCells 38) = w1 at HZ HB ⊢
  go_wp2_with ((with_reducible refine wpList_store_page HZ.out zeros_length rfl (.tmp 4) (.tmp 16) rfl rfl ?_ ?_); (exact rfl))
  exact bodyPost_ret (results_page_int _ 4 5 rfl _ (HZ.out.put _ zeros_length) rfl) rfl ⟨rfl, below_setCells _ (Nat.le_refl _) _ _ _ HB.out⟩
set_option maxRecDepth 100000 in
set_option maxHeartbeats 2000000 in
theorem sread_any {w : World} {b : Blk} {s : Sto} (h : StoreAt w b s) (i : Int) : Calls Tryz.prog 12 #[.pointer (some ⟨b.s, 0, none⟩), .int .i64 i] w fun e w' => e = .returned (.tuple #[pageV (sreadP s i), .int .i64 (sreadE s i)]) ∧ Below w.heap.size w w' := by
  have HR := Lib.hid (sreach_any (h.alloc (.cells zeroCells 38)) i)
  have HS : Hid (∀ W, Below (w.alloc (.cells zeroCells 38)).heap.size (w.alloc (.cells zeroCells 38)) W → RdAt w b s W) := Lib.hid (fun W hb => rdAt_start h hb)
  rw [zeroCells_def] at HR
  by_cases c : sreachE s i = 0
  · obtain ⟨c1, c2⟩ := sreach_zero c
    have c3 := of_decide_eq_true c2
    obtain ⟨k, rfl⟩ := Int.eq_ofNat_of_zero_le c3.1
    have hk : k < s.dk.last.length := by omega
    have hk2 : k ≤ 1000 := by have := h.disk.ok.small; omega
    rw [c] at HR
    cases ht : s.step.getD k none with
    | some p =>
      have HP : Hid (sreadP s (k : Int) = p) := Lib.hid (by unfold sreadP sheld; rw [if_pos c, Int.toNat_natCast, ht]; rfl)
      have HE : Hid (sreadE s (k : Int) = 0) := Lib.hid (by unfold sreadE sheld; rw [if_pos c, Int.toNat_natCast, ht]; rfl)
      have HN := Lib.hid (h.ok.spg k p ht).1
      have HLK := Lib.hid (fun (W : World) (hW : RdAt w b s W) => hW.st.step.look k hk2)
      rw [ht] at HLK
      simp only [Option.getD_some, Option.isSome_some] at HLK
      rw [HP.out, HE.out]
      clear HP HE c c1 c2 c3 ht h hk hk2
      go_enter Tryz.func12, Tryz.ntmps12
      go_wp2_with fail
      refine HR.out.mono ?_
      rintro e w1 ⟨rfl, hB1⟩
      rw [← zeroCells_def] at hB1
      have HS1 := Lib.hid (HS.out _ hB1)
      clear HR HS hB1
      have c4 := HS1.out.st.c4
      have hlook := HLK.out w1 HS1.out
      go_wp2_with (first
        | ((with_reducible refine wpList_store_new rfl (.tmp 7) (.tmp 25) rfl rfl ?_ ?_ HN.out ?_); (exact rfl); (exact rfl); intro W2 hP hB2 hz2; clear hlook; have HS2 := Lib.hid (HS1.out.next hB2))
        | (with_reducible refine wpList_load_page hP rfl (.tmp 7) rfl rfl ?_)
        | (with_reducible refine wpList_store_page HS2.out.page HN.out rfl (.tmp 4) (.tmp 28) rfl rfl rfl ?_))
      exact bodyPost_ret (results_page_int _ 4 5 rfl _ (HS2.out.page.put _ HN.out) rfl) rfl ⟨rfl, below_setCells _ (Nat.le_refl _) _ _ _ HS2.out.bel⟩
    | none =>
      have HLT := Lib.hid (fun (W : World) (hW : RdAt w b s W) => hW.st.step.look k hk2)
      rw [ht] at HLT
      simp only [Option.getD_none, Option.isSome_none] at HLT
      cases hg : s.group.getD k none with
      | some p =>
        have HP : Hid (sreadP s (k : Int) = p) := Lib.hid (by unfold sreadP sheld; rw [if_pos c, Int.toNat_natCast, ht, hg]; rfl)
        have HE : Hid (sreadE s (k : Int) = 0) := Lib.hid (by unfold sreadE sheld; rw [if_pos c, Int.toNat_natCast, ht, hg]; rfl)
        have HN := Lib.hid (h.ok.gpg k p hg).1
        have HLK := Lib.hid (fun (W : World) (hW : RdAt w b s W) => hW.st.group.look k hk2)
        rw [hg] at HLK
        simp only [Option.getD_some, Option.isSome_some] at HLK
        rw [HP.out, HE.out]
        clear HP HE c c1 c2 c3 ht hg h hk hk2
        go_enter Tryz.func12, Tryz.ntmps12
        go_wp2_with fail
        refine HR.out.mono ?_
        rintro e w1 ⟨rfl, hB1⟩
        rw [← zeroCells_def] at hB1
        have HS1 := Lib.hid (HS.out _ hB1)
        clear HR HS hB1
        have c4 := HS1.out.st.c4
        have hlook := HLT.out w1 HS1.out
        go_wp2_with (first
          | ((with_reducible refine wpList_store_new rfl (.tmp 7) (.tmp 25) rfl rfl ?_ ?_ zeros_length ?_); (exact rfl); (exact rfl); intro W2 hP hB2 hz2; clear hlook; have HS2 := Lib.hid (HS1.out.next hB2); clear hP hB2 hz2; have c5 := HS2.out.st.c5; have hlook2 := HLK.out W2 HS2.out)
          | ((with_reducible refine wpList_store_new rfl (.tmp 9) (.tmp 36) rfl rfl ?_ ?_ HN.out ?_); (exact rfl); (exact rfl); intro W3 hP hB3 hz3; clear hlook2; have HS3 := Lib.hid (HS2.out.next hB3))
          | (with_reducible refine wpList_load_page hP rfl (.tmp 9) rfl rfl ?_)
          | (with_reducible refine wpList_store_page HS3.out.page HN.out rfl (.tmp 4) (.tmp 39) rfl rfl rfl ?_))
        exact bodyPost_ret (results_page_int _ 4 5 rfl _ (HS3.out.page.put _ HN.out) rfl) rfl ⟨rfl, below_setCells _ (Nat.le_refl _) _ _ _ HS3.out.bel⟩
      | none =>
        have HP : Hid (sreadP s (k : Int) = Dk.readP s.dk (k : Int)) := Lib.hid (by unfold sreadP sheld; rw [if_pos c, Int.toNat_natCast, ht, hg]; rfl)
        have HE : Hid (sreadE s (k : Int) = Dk.reachE s.dk (k : Int)) := Lib.hid (by unfold sreadE sheld; rw [if_pos c, Int.toNat_natCast, ht, hg]; rfl)
        have HN := Lib.hid (Dk.readP_len h.disk.ok (k : Int))
        have HLK := Lib.hid (fun (W : World) (hW : RdAt w b s W) => hW.st.group.look k hk2)
        rw [hg] at HLK
        simp only [Option.getD_none, Option.isSome_none] at HLK
        have HRD := Lib.hid (fun (W : World) (hW : RdAt w b s W) => read_any hW.st.disk (k : Int))
        rw [HP.out, HE.out]
        clear HP HE c c1 c2 c3 ht hg h hk hk2
        generalize Dk.readP s.dk (k : Int) = p at HN HRD ⊢
        generalize Dk.reachE s.dk (k : Int) = E at HRD ⊢
        go_enter Tryz.func12, Tryz.ntmps12
        go_wp2_with fail
        refine HR.out.mono ?_
        rintro e w1 ⟨rfl, hB1⟩
        rw [← zeroCells_def] at hB1
        have HS1 := Lib.hid (HS.out _ hB1)
        clear HR HS hB1
        have c4 := HS1.out.st.c4
        have hlook := HLT.out w1 HS1.out
        go_wp2_with (first
          | ((with_reducible refine wpList_store_new rfl (.tmp 7) (.tmp 25) rfl rfl ?_ ?_ zeros_length ?_); (exact rfl); (exact rfl); intro W2 hP hB2 hz2; clear hlook; have HS2 := Lib.hid (HS1.out.next hB2); clear hP hB2 hz2; have c5 := HS2.out.st.c5; have hlook2 := HLK.out W2 HS2.out)
          | ((with_reducible refine wpList_store_new rfl (.tmp 9) (.tmp 36) rfl rfl ?_ ?_ zeros_length ?_); (exact rfl); (exact rfl); intro W3 hP hB3 hz3; clear hlook2; have HS3 := Lib.hid (HS2.out.next hB3); clear hP hB3 hz3; have c1 := HS3.out.st.c1))
        refine (HRD.out _ HS3.out).mono ?_
        rintro e W4 ⟨rfl, hB4⟩
        have HS4 := Lib.hid (HS3.out.next hB4)
        clear hB4
        go_wp2_with (with_reducible refine wpList_store_page HS4.out.page HN.out rfl (.tmp 4) (.tmp 46) rfl rfl rfl ?_)
        exact bodyPost_ret (results_page_int _ 4 5 rfl _ (HS4.out.page.put _ HN.out) rfl) rfl ⟨rfl, below_setCells _ (Nat.le_refl _) _ _ _ HS4.out.bel⟩
  · have HP : Hid (sreadP s i = zeros) := Lib.hid (by unfold sreadP; rw [if_neg c])
    have HE : Hid (sreadE s i = sreachE s i) := Lib.hid (by unfold sreadE; rw [if_neg c])
    rw [HP.out, HE.out]
    have hne : (sreachE s i == 0) = false := by simpa using c
    have hne2 : (sreachE s i != 0) = true := by simpa using c
    generalize sreachE s i = E at HR hne hne2 ⊢
    clear c h HP HE
    go_enter Tryz.func12, Tryz.ntmps12
    go_wp2_with fail
    refine HR.out.mono ?_
    rintro e w1 ⟨rfl, hB1⟩
    rw [← zeroCells_def] at hB1
    have HS1 := Lib.hid (HS.out _ hB1)
    clear HR HS hB1
    go_wp2_with ((with_reducible refine wpList_store_page HS1.out.page zeros_length rfl (.tmp 4) (.tmp 16) rfl rfl ?_ ?_); (exact rfl))
    exact bodyPost_ret (results_page_int _ 4 5 rfl _ (HS1.out.page.put _ zeros_length) rfl) rfl ⟨rfl, below_setCells _ (Nat.le_refl _) _ _ _ HS1.out.bel⟩

/-! ### Put -/
theorem sput_nil (i : Int) (p : List UInt8) (w : World) : Calls Tryz.prog 10 #[.pointer none, .int .i64 i, pageV p] w fun e w' => e = .returned (.int .i64 5) ∧ Below w.heap.size w w' := by
  unfold pageV
  go_enter Tryz.func10, Tryz.ntmps10
  go_wp2_with (go_at_call 29; refine (sreach_nil _ _).mono ?_; rintro e w' ⟨rfl, rfl⟩)
  go_ret
  exact ⟨rfl, (Below.refl _ _).alloc (Nat.le_refl _) _⟩
structure PtAt (w : World) (b : Blk) (s : Sto) (p : List UInt8) (W : World) : Prop where
  page : PageAt W w.heap.size p
  st : StoreAt W b s
  bel : Below w.heap.size w W
  lt : w.heap.size < W.heap.size
theorem PtAt.next {w : World} {b : Blk} {s : Sto} {p : List UInt8} {W W' : World} (h : PtAt w b s p W) (hb : Below W.heap.size W W') : PtAt w b s p W' :=
  ⟨h.page.below hb h.lt, h.st.below hb, h.bel.trans (hb.mono h.bel.size), Nat.lt_of_lt_of_le h.lt hb.size⟩
theorem ptAt_start {w : World} {b : Blk} {s : Sto} (h : StoreAt w b s) {p : List UInt8} (hp : p.length = 64) : PtAt w b s p (w.alloc (.cells (byteVals p).toArray 38)) :=
  ⟨pageAt_new w p 38 hp, h.alloc _, (Below.refl _ _).alloc (Nat.le_refl _) _, by simp⟩
set_option maxRecDepth 100000 in
set_option maxHeartbeats 2000000 in
theorem sput_any {w : World} {b : Blk} {s : Sto} (h : StoreAt w b s) (i : Int) (p : List UInt8) (hp : p.length = 64) : Calls Tryz.prog 10 #[.pointer (some ⟨b.s, 0, none⟩), .int .i64 i, pageV p] w fun e w' =>
    e = .returned (.int .i64 (sputE s i)) ∧ StoreAt w' b (sput s i p) ∧ Only [b.t] w w' := by
  have HP := Lib.hid hp
  have HS := Lib.hid (ptAt_start h hp)
  have HR := Lib.hid (sreach_any HS.out.st i)
  have HT := Lib.hid h.ok
  have HSM := Lib.hid h.disk.ok.small
  unfold pageV
  by_cases c : sreachE s i = 0
  · obtain ⟨c1, c2⟩ := sreach_zero c
    have c3 := of_decide_eq_true c2
    obtain ⟨k, rfl⟩ := Int.eq_ofNat_of_zero_le c3.1
    have hk : k < s.dk.last.length := by omega
    have hk2 : k ≤ 1000 := by have := h.disk.ok.small; omega
    have HK := Lib.hid hk
    have HC2 := Lib.hid c2
    rw [c] at HR
    have HLK := Lib.hid (fun (W : World) (hW : PtAt w b s p W) => hW.st.step.look k hk2)
    obtain ⟨q, hj, _⟩ := h.ja
    have HRM := Lib.hid (fun (W : World) (hW : PtAt w b s p W) (n : Nat) => show Calls Tryz.prog 30 #[.pointer (some ⟨b.j, 0, none⟩)] (W.drewN n) fun e w' => e = .returned (.int .i64 (s.r : Int)) ∧ w' = W.drewN n from by
      obtain ⟨q', hj', _⟩ := (hW.st.drewN n).ja
      exact (mroom_any hj' hW.st.ok.room).mono fun e w' ⟨h1, h2⟩ => ⟨h1, h2.symm⟩)
    have HLN := Lib.hid (fun (W : World) (hW : PtAt w b s p W) (n : Nat) (ty : TypeId) => (hW.st.drewN n).step.len ty)
    clear h hp hj
    by_cases f : (s.step.getD k none).isSome = false ∧ s.r ≤ cntO s.step
    · have HE : Hid (sputE s (k : Int) = 28) := Lib.hid (by unfold sputE; rw [if_pos c, Int.toNat_natCast, if_pos f])
      have HF : Hid (sput s (k : Int) p = s) := Lib.hid (by unfold sput; rw [HE.out]; rfl)
      obtain ⟨f1, f2⟩ := f
      rw [HE.out, HF.out]
      have f3 : (s.r : Int) ≤ (cntO s.step : Int) := by omega
      rw [f1] at HLK
      have HG : Hid (s.step.getD k none = none) := Lib.hid (by cases e : s.step.getD k none with | none => rfl | some x => rw [e] at f1; cases f1)
      rw [HG.out] at HLK
      simp only [Option.getD_none] at HLK
      unfold cntO at f3
      generalize List.countP (fun x => x.isSome) s.step = N at HLN f3
      clear HE HF f1 f2 c c1 c2 c3 hk hk2 HG
      go_enter Tryz.func10, Tryz.ntmps10
      go_wp2_with fail
      generalize w.alloc (.cells (byteVals p).toArray 38) = w1 at HS HR ⊢
      refine HR.out.mono ?_
      rintro e w2 ⟨rfl, hB2⟩
      have HS2 := Lib.hid (HS.out.next hB2)
      clear hB2 HR HS
      have c4 := HS2.out.st.c4
      have hlook := HLK.out w2 HS2.out
      go_wp2_with (first
        | ((with_reducible refine wpList_store_new rfl (.tmp 8) (.tmp 23) rfl rfl ?_ ?_ zeros_length ?_); (exact rfl); (exact rfl); intro W3 hP hB3 hz3; clear hlook; have HS3 := Lib.hid (HS2.out.next hB3); clear hP hB3 hz3 c4))
      have c4 := HS3.out.st.c4
      have c0 := HS3.out.st.c0
      have hln := HLN.out W3 HS3.out
      go_quiet ((go_at_call 30; refine Calls.quiet_of_same (HRM.out W3 HS3.out _)))
      go_wp2
      go_ret
      exact ⟨rfl, HS3.out.st.drewN _, Only.below (HS3.out.bel.trans (below_drewN _ _))⟩
    · have HE : Hid (sputE s (k : Int) = 0) := Lib.hid (by unfold sputE; rw [if_pos c, Int.toNat_natCast, if_neg f])
      have HF : Hid (sput s (k : Int) p = { s with step := s.step.set k (some p) }) := Lib.hid (by unfold sput; rw [if_pos HE.out, Int.toNat_natCast])
      rw [HE.out, HF.out]
      have HOK := Lib.hid (sput_ok HT.out HP.out HC2.out f)
      have HST := Lib.hid (show k < s.step.length by rw [HT.out.slen]; exact HK.out)
      have HST2 := Lib.hid (show s.step.length ≤ 1000 by rw [HT.out.slen]; have := HSM.out; omega)
      cases g : s.step.getD k none with
      | some x =>
        rw [g] at HLK
        simp only [Option.getD_some, Option.isSome_some] at HLK
        have HX := Lib.hid (HT.out.spg k x g).1
        clear HE HF c c1 c2 c3 hk hk2 f g
        go_enter Tryz.func10, Tryz.ntmps10
        go_wp2_with fail
        generalize w.alloc (.cells (byteVals p).toArray 38) = w1 at HS HR ⊢
        refine HR.out.mono ?_
        rintro e w2 ⟨rfl, hB2⟩
        have HS2 := Lib.hid (HS.out.next hB2)
        clear hB2 HR HS
        have c4 := HS2.out.st.c4
        have hlook := HLK.out w2 HS2.out
        go_wp2_with (first
          | ((with_reducible refine wpList_store_new rfl (.tmp 8) (.tmp 23) rfl rfl ?_ ?_ HX.out ?_); (exact rfl); (exact rfl); intro W3 hP hB3 hz3; clear hlook; have HS3 := Lib.hid (HS2.out.next hB3); clear hP hB3 hz3 c4))
        have c4 := HS3.out.st.c4
        go_quiet (fail)
        have HS4 := Lib.hid (HS3.out.next (below_drewN _ nq))
        generalize W3.drewN nq = w4 at HS4 ⊢
        have c4' : w4.drew.cell? ⟨b.s, 4, none⟩ = some (.map (some b.t)) := HS4.out.st.c4
        go_wp2_with fail
        refine wp_region_still_tail 6 (by kernel_rfl) (by kernel_rfl) ?_
        simp only [List.take_succ_cons, List.take_zero, List.drop_succ_cons, List.drop_zero]
        change wpStill _ _ w4.drew (fun a' => wpList _ _ _ _ a' w4.drew) _ _
        still_step
        still_step
        still_step
        still_step
        still_step
        refine wpStill_load_page (HS4.out.page.block rfl) rfl (.tmp 5) rfl rfl ?_
        refine wpStill_nil ?_
        refine wpList_map_store (HS4.out.st.step.block (w' := w4.drew) rfl) k HST.out HST2.out HP.out rfl (.tmp 43) (.tmp 44) (.tmp 45) rfl rfl rfl rfl ?_
        intro w5 hm5 ht5
        go_wp2
        go_ret
        have ho : Only [b.t] w4.drew w5 := Only.grown ht5.grown (by simp)
        exact ⟨rfl, HS4.out.st.drew.setStep ho hm5 HOK.out, (Only.below HS4.out.bel).drew.trans ho⟩
      | none =>
        rw [g] at HLK
        simp only [Option.getD_none, Option.isSome_none] at HLK
        have f3 : ¬ ((s.r : Int) ≤ (cntO s.step : Int)) := fun q => f ⟨by rw [g]; rfl, by omega⟩
        have f4 : decide ((s.r : Int) ≤ (cntO s.step : Int)) = false := decide_eq_false f3
        unfold cntO at f3 f4
        generalize List.countP (fun x => x.isSome) s.step = N at HLN f3 f4
        clear HE HF c c1 c2 c3 hk hk2 f g
        go_enter Tryz.func10, Tryz.ntmps10
        go_wp2_with fail
        generalize w.alloc (.cells (byteVals p).toArray 38) = w1 at HS HR ⊢
        refine HR.out.mono ?_
        rintro e w2 ⟨rfl, hB2⟩
        have HS2 := Lib.hid (HS.out.next hB2)
        clear hB2 HR HS
        have c4 := HS2.out.st.c4
        have hlook := HLK.out w2 HS2.out
        go_wp2_with (first
          | ((with_reducible refine wpList_store_new rfl (.tmp 8) (.tmp 23) rfl rfl ?_ ?_ zeros_length ?_); (exact rfl); (exact rfl); intro W3 hP hB3 hz3; clear hlook; have HS3 := Lib.hid (HS2.out.next hB3); clear hP hB3 hz3 c4))
        have c4 := HS3.out.st.c4
        have c0 := HS3.out.st.c0
        have hln := HLN.out W3 HS3.out
        go_quiet ((go_at_call 30; refine Calls.quiet_of_same (HRM.out W3 HS3.out _)))
        have HS4 := Lib.hid (HS3.out.next (below_drewN _ nq))
        generalize W3.drewN nq = w4 at HS4 ⊢
        have c4' : w4.drew.cell? ⟨b.s, 4, none⟩ = some (.map (some b.t)) := HS4.out.st.c4
        go_wp2_with fail
        refine wp_region_still_tail 6 (by kernel_rfl) (by kernel_rfl) ?_
        simp only [List.take_succ_cons, List.take_zero, List.drop_succ_cons, List.drop_zero]
        change wpStill _ _ w4.drew (fun a' => wpList _ _ _ _ a' w4.drew) _ _
        still_step
        still_step
        still_step
        still_step
        still_step
        refine wpStill_load_page (HS4.out.page.block rfl) rfl (.tmp 5) rfl rfl ?_
        refine wpStill_nil ?_
        refine wpList_map_store (HS4.out.st.step.block (w' := w4.drew) rfl) k HST.out HST2.out HP.out rfl (.tmp 43) (.tmp 44) (.tmp 45) rfl rfl rfl rfl ?_
        intro w5 hm5 ht5
        go_wp2
        go_ret
        have ho : Only [b.t] w4.drew w5 := Only.grown ht5.grown (by simp)
        exact ⟨rfl, HS4.out.st.drew.setStep ho hm5 HOK.out, (Only.below HS4.out.bel).drew.trans ho⟩
  · have HE : Hid (sputE s i = sreachE s i) := Lib.hid (by unfold sputE; rw [if_neg c])
    have HF : Hid (sput s i p = s) := Lib.hid (by unfold sput; rw [HE.out, if_neg c])
    rw [HE.out, HF.out]
    have hne2 : (sreachE s i == 0) = false := by simpa using c
    have hne3 : (sreachE s i != 0) = true := by simpa using c
    generalize sreachE s i = E at HR hne2 hne3 ⊢
    clear c HE HF h hp
    go_enter Tryz.func10, Tryz.ntmps10
    go_wp2_with fail
    generalize w.alloc (.cells (byteVals p).toArray 38) = w1 at HS HR ⊢
    refine HR.out.mono ?_
    rintro e w2 ⟨rfl, hB2⟩
    have HS2 := Lib.hid (HS.out.next hB2)
    clear hB2 HR HS
    go_wp2
    go_ret
    exact ⟨rfl, HS2.out.st, Only.below HS2.out.bel⟩
end Go.Proofs.YtppbiohjhnoagaaGreat
