/-
  Entries in memory; a map in memory; what a call may change.
-/
import Derived.Test.YthngbakbiocadaaMa
import Derived.StillTail
import Derived.Laws.IdiomCopy
import Derived.Deep.DeepCutAuto
import Derived.Test.YthngbakbiocadaaRows
import Derived.Orders
import Derived.WalkKit

namespace Go.Proofs.Ythngbakbiocadaa
set_option maxRecDepth 100000
open Go.ChangeShapes Go.WideShapes Go.ChangeAt Go.RowKit Go.Maps

def enL (x : Z.En) : List Value := [.int .i64 x.key, .int .i64 x.a, .int .i64 x.b, .int .i64 x.c, .int .i64 x.d]
theorem enL_length (x : Z.En) : (enL x).length = 5 := rfl
theorem enL_one (x : Z.En) : ∀ v ∈ enL x, v.oneCell' = true := by
  intro v hv
  simp only [enL, List.mem_cons, List.not_mem_nil, or_false] at hv
  rcases hv with rfl | rfl | rfl | rfl | rfl <;> rfl
def enV (x : Z.En) : Value := .agg (enL x).toArray
def wordsL (x : Z.En) : List Value := [.int .i64 x.a, .int .i64 x.b, .int .i64 x.c, .int .i64 x.d]
theorem wordsL_length (x : Z.En) : (wordsL x).length = 4 := rfl
theorem wordsL_one (x : Z.En) : ∀ v ∈ wordsL x, v.oneCell' = true := by
  intro v hv
  simp only [wordsL, List.mem_cons, List.not_mem_nil, or_false] at hv
  rcases hv with rfl | rfl | rfl | rfl <;> rfl
theorem enT : RowT 74 5 := ⟨⟨_, Try.underlying74, rfl⟩, by kernel_rfl⟩
theorem renT : RowT 59 5 := ⟨⟨_, Try.underlying59, rfl⟩, by kernel_rfl⟩
theorem valT : RowT 60 4 := ⟨⟨_, Try.underlying60, rfl⟩, by kernel_rfl⟩
theorem rvalT : RowT 57 4 := ⟨⟨_, Try.underlying57, rfl⟩, by kernel_rfl⟩
theorem mapT : RowT 86 3 := ⟨⟨_, Try.underlying86, rfl⟩, by kernel_rfl⟩
theorem rmapT : RowT 55 3 := ⟨⟨_, Try.underlying55, rfl⟩, by kernel_rfl⟩
theorem info_en : (Try.prog.info? 74).map (fun i => (i.zero, i.size, i.bytes)) = some (some (.agg #[.int .i64 0, .int .i64 0, .int .i64 0, .int .i64 0, .int .i64 0]), 5, 40) := by kernel_rfl
theorem info_ren : (Try.prog.info? 59).map (fun i => (i.zero, i.size, i.bytes)) = some (some (.agg #[.int .i64 0, .int .i64 0, .int .i64 0, .int .i64 0, .int .i64 0]), 5, 40) := by kernel_rfl
def cellsE (xs : List Z.En) : List Value := xs.flatMap enL
theorem cellsE_length (xs : List Z.En) : (cellsE xs).length = xs.length * 5 := by
  induction xs with
  | nil => rfl
  | cons b t ih => unfold cellsE at ih ⊢; rw [List.flatMap_cons, List.length_append, ih, enL_length, List.length_cons]; omega
theorem cellsE_snoc (xs : List Z.En) (x : Z.En) : cellsE (xs ++ [x]) = cellsE xs ++ enL x := by unfold cellsE; simp
theorem cellsE_app (xs ys : List Z.En) : cellsE (xs ++ ys) = cellsE xs ++ cellsE ys := by unfold cellsE; simp
theorem cellsE_one (xs : List Z.En) : ∀ v ∈ cellsE xs, v.oneCell' = true := by
  intro v hv
  unfold cellsE at hv
  obtain ⟨x, _, hx⟩ := List.mem_flatMap.1 hv
  exact enL_one x v hx
theorem cellsE_at : ∀ (xs : List Z.En) (i : Nat) (x : Z.En) (j : Nat) (v : Value), xs[i]? = some x → (enL x)[j]? = some v → (cellsE xs)[i * 5 + j]? = some v
  | [], i, x, j, v, hx, _ => by simp at hx
  | y :: r, 0, x, j, v, hx, hv => by
    simp at hx
    subst hx
    have hj : j < 5 := (List.getElem?_eq_some_iff.1 hv).1
    unfold cellsE
    rw [List.flatMap_cons, Nat.zero_mul, Nat.zero_add, List.getElem?_append_left (by rw [enL_length]; exact hj)]
    exact hv
  | y :: r, i + 1, x, j, v, hx, hv => by
    have := cellsE_at r i x j v (by simpa using hx) hv
    unfold cellsE at this ⊢
    rw [List.flatMap_cons, List.getElem?_append_right (by rw [enL_length]; omega), enL_length, show (i + 1) * 5 + j - 5 = i * 5 + j by omega]
    exact this
theorem cellsE_take : ∀ (xs : List Z.En) (k : Nat), cellsE (xs.take k) = (cellsE xs).take (k * 5)
  | [], k => by simp [cellsE]
  | y :: r, 0 => by simp [cellsE]
  | y :: r, k + 1 => by
    have := cellsE_take r k
    unfold cellsE at this ⊢
    rw [List.take_succ_cons, List.flatMap_cons, List.flatMap_cons, this, List.take_append, enL_length, List.take_of_length_le (l := enL y) (by rw [enL_length]; omega), show (k + 1) * 5 - 5 = k * 5 by omega]
theorem cellsE_drop : ∀ (xs : List Z.En) (k : Nat), cellsE (xs.drop k) = (cellsE xs).drop (k * 5)
  | [], k => by simp [cellsE]
  | y :: r, 0 => by simp [cellsE]
  | y :: r, k + 1 => by
    have := cellsE_drop r k
    unfold cellsE at this ⊢
    rw [List.drop_succ_cons, List.flatMap_cons, this, List.drop_append, enL_length, List.drop_of_length_le (l := enL y) (by rw [enL_length]; omega), show (k + 1) * 5 - 5 = k * 5 by omega, List.nil_append]

/-! ### what a call may change -/
/-- all that was there but these blocks is as it was -/
structure But (S : Nat → Prop) (w w' : World) : Prop where
  os : w'.os = w.os
  tape : w'.tape = w.tape
  output : w'.output = w.output
  size : w.heap.size ≤ w'.heap.size
  block : ∀ k, k < w.heap.size → ¬ S k → w'.heap[k]? = w.heap[k]?
theorem But.refl (S : Nat → Prop) (w : World) : But S w w := ⟨rfl, rfl, rfl, Nat.le_refl _, fun _ _ _ => rfl⟩
theorem But.trans {S T : Nat → Prop} {a b c : World} (h : But S a b) (k : But T b c) (hT : ∀ x, T x → S x ∨ a.heap.size ≤ x) : But S a c :=
  ⟨k.os.trans h.os, k.tape.trans h.tape, k.output.trans h.output, Nat.le_trans h.size k.size, fun i hi hS => by
    refine (k.block i (Nat.lt_of_lt_of_le hi h.size) (fun ht => ?_)).trans (h.block i hi hS)
    rcases hT i ht with h1 | h1
    · exact hS h1
    · omega⟩
theorem But.mono {S T : Nat → Prop} {a b : World} (h : But S a b) (hT : ∀ x, S x → T x ∨ a.heap.size ≤ x) : But T a b :=
  ⟨h.os, h.tape, h.output, h.size, fun k hk hS => h.block k hk (fun hs => by
    rcases hT k hs with h1 | h1
    · exact hS h1
    · omega)⟩
theorem But.of_below {S : Nat → Prop} {a b : World} (h : Below a.heap.size a b) : But S a b := ⟨h.os, h.tape, h.output, h.size, fun k hk _ => h.block k hk⟩
theorem But.below {S : Nat → Prop} {n : Nat} {a b : World} (h : But S a b) (hn : n ≤ a.heap.size) (hS : ∀ x, S x → n ≤ x) : Below n a b := ⟨h.os, h.tape, h.output, h.size, fun k hk => h.block k (by omega) (fun hs => by have := hS k hs; omega)⟩
theorem But.of_grown {a b : World} {r : Option Nat} (h : a.grownBy b r) : But (fun k => r = some k) a b := ⟨h.os, h.tape, h.output, h.size, fun k hk hS => h.block k hk (fun e => hS e.symm)⟩
theorem But.setCell (w : World) (b o : Nat) (v : Value) : But (fun k => k = b) w (w.setCell ⟨b, o, none⟩ v) := ⟨rfl, rfl, rfl, by simp [World.setCell], fun k _ hk => Below.heap_setCell _ _ _ _ hk⟩
theorem But.alloc (S : Nat → Prop) (w : World) (o : Obj) : But S w (w.alloc o) := But.of_below ((Below.refl _ _).alloc (Nat.le_refl _) o)
theorem But.drew (S : Nat → Prop) (w : World) : But S w w.drew := But.of_below (Below.refl _ _).drew
theorem But.setCells (b : Nat) : ∀ (vs : List Value) (o : Nat) (w : World), But (fun k => k = b) w (w.setCells b o vs)
  | [], _, w => But.refl _ w
  | v :: r, o, w => by
    rw [World.setCells]
    exact (But.setCell w b o v).trans (But.setCells b r (o + 1) _) (fun x hx => Or.inl hx)
theorem RowAt.of_block {w w' : World} {b : Nat} {vs : List Value} (h : RowAt w b vs) (hb : w'.heap[b]? = w.heap[b]?) : RowAt w' b vs where
  range := fun j v hv => (World.cell?_of_block (a := ⟨b, 0 + j, none⟩) hb).trans (h.range j v hv)
  free := fun j hj => by
    rw [World.cell?_of_block (a := ⟨b, 0 + j, none⟩) hb, World.frozen?_of_block (a := ⟨b, 0 + j, none⟩) hb]
    exact h.free j hj
theorem RowAt.but {S : Nat → Prop} {w w' : World} {b : Nat} {v : Value} {vs : List Value} (h : RowAt w b (v :: vs)) (hb : But S w w') (hS : ¬ S b) : RowAt w' b (v :: vs) := h.of_block (hb.block b h.lt hS)
theorem own_but {S : Nat → Prop} {w w' : World} {base : Nat} {e : TypeId} {size : Nat} {v : Value} {n : Nat} {xs : List Value} (h : w.ownsRow base e size v n xs) (hb : But S w w') (hS : ∀ g, v.ownBlock = some g → ¬ S g) : w'.ownsRow base e size v n xs := by
  refine ⟨h.1, ?_⟩
  rcases h.2 with h2 | ⟨g, cap, cur, h1, h2, h3, h4⟩
  · exact Or.inl h2
  · refine Or.inr ⟨g, cap, cur, h1, h2, (hb.block g (Array.getElem?_eq_some_iff.1 h3).1 (hS g ?_)).trans h3, h4⟩
    rw [h1]; rfl
/-- the cells of what is owned -/
theorem own_range {w : World} {base : Nat} {t : TypeId} {v : Value} {n : Nat} {xs : List Z.En} (h : w.ownsRow base t 5 v n (cellsE xs)) {i : Nat} {x : Z.En} (hx : xs[i]? = some x) : ∃ g c, v = .slice (some ⟨g, 0, none⟩) n c ∧ n ≤ c ∧ c ≤ maxLen ∧ base ≤ g ∧ g < w.heap.size ∧ w.rangeAt g (i * 5) (enL x) := by
  obtain ⟨h1, h2⟩ := h
  have hn : n = xs.length := by rw [cellsE_length] at h1; omega
  have hi := (List.getElem?_eq_some_iff.1 hx).1
  rcases h2 with ⟨e, e2⟩ | ⟨g, cap, cur, e, hb, hg, hnc, hcm, hsz, htk⟩
  · exfalso; omega
  · refine ⟨g, cap, e, hnc, hcm, hb, (Array.getElem?_eq_some_iff.1 hg).1, fun j v hv => ?_⟩
    have hf := cellsE_at xs i x j v hx hv
    rw [← htk] at hf
    have hlt : i * 5 + j < n * 5 := by
      have := (List.getElem?_eq_some_iff.1 hf).1
      rw [List.length_take] at this; omega
    rw [List.getElem?_take_of_lt hlt] at hf
    simp only [World.cell?, hg]
    simp only [Option.isSome_none, Bool.false_eq_true, if_false]
    rw [← Array.getElem?_toList]
    exact hf
theorem own_many {w : World} {base : Nat} {t : TypeId} {A : Option Addr} {n c : Nat} {xs : List Z.En} (h : w.ownsRow base t 5 (.slice A n c) n (cellsE xs)) : ManyAt w A 5 (xs.map enL) := ⟨fun h0 => by
  rw [List.length_map] at h0
  obtain ⟨x0, hx0⟩ : ∃ x, xs[0]? = some x := ⟨_, List.getElem?_eq_getElem h0⟩
  obtain ⟨g, c', e, _, _, _, hlt, _⟩ := own_range h hx0
  injection e with e _ _
  refine ⟨g, 0, e, hlt, fun i r hr => ?_⟩
  rw [List.getElem?_map] at hr
  obtain ⟨x, hx, rfl⟩ := Option.map_eq_some_iff.1 hr
  obtain ⟨g', c'', e', _, _, _, _, hrg⟩ := own_range h hx
  injection e' with e' _ _
  rw [e] at e'
  injection e' with e'
  injection e' with e'
  rw [Nat.zero_add, e']
  exact hrg⟩
/-- entries that lie in a slice -/
structure EnsAt (w : World) (A : Option Addr) (n : Nat) (xs : List Z.En) : Prop where
  len : xs.length = n
  rows : ManyAt w A 5 (xs.map enL)
theorem EnsAt.step {w w' : World} {A : Option Addr} {n : Nat} {xs : List Z.En} (h : EnsAt w A n xs) (hb : Below w.heap.size w w') : EnsAt w' A n xs := ⟨h.len, h.rows.step hb⟩
theorem EnsAt.get {w : World} {A : Option Addr} {n : Nat} {xs : List Z.En} (h : EnsAt w A n xs) (k : Nat) (hk : k < n) : ∃ b off x, A = some ⟨b, off, none⟩ ∧ b < w.heap.size ∧ xs[k]? = some x ∧ w.rangeAt b (off + k * 5) (enL x) := by
  obtain ⟨b, off, e, hb, hc⟩ := h.rows.cells (by rw [List.length_map, h.len]; omega)
  have hx : xs[k]? = some (xs[k]'(by rw [h.len]; exact hk)) := List.getElem?_eq_getElem _
  exact ⟨b, off, _, e, hb, hx, hc k _ (by rw [List.getElem?_map, hx]; rfl)⟩
/-- a map in memory: its head (kind, or Lru), its room, its entries -/
structure MpAt (et : TypeId) (hd : Value) (w : World) (base b : Nat) (sv : Value) (room : Nat) (l : List Z.En) : Prop where
  row : RowAt w b [hd, .int .i64 (room : Int), sv]
  own : w.ownsRow base et 5 sv l.length (cellsE l)
  ne : sv.ownBlock ≠ some b
  ge : base ≤ b
def Foot (b : Nat) (sv : Value) (k : Nat) : Prop := k = b ∨ sv.ownBlock = some k
theorem MpAt.foot {et : TypeId} {hd : Value} {w : World} {base b : Nat} {sv : Value} {room : Nat} {l : List Z.En} (h : MpAt et hd w base b sv room l) {k : Nat} (hk : Foot b sv k) : base ≤ k ∧ k < w.heap.size := by
  rcases hk with rfl | hk
  · exact ⟨h.ge, h.row.lt⟩
  · exact h.own.lt k hk
theorem MpAt.keep {et : TypeId} {hd : Value} {w w' : World} {base b : Nat} {sv : Value} {room : Nat} {l : List Z.En} {S : Nat → Prop} (h : MpAt et hd w base b sv room l) (hb : But S w w') (hS : ∀ k, S k → ¬ Foot b sv k) : MpAt et hd w' base b sv room l where
  row := h.row.but hb (fun hs => hS b hs (Or.inl rfl))
  own := own_but h.own hb (fun g hg hs => hS g hs (Or.inr hg))
  ne := h.ne
  ge := h.ge
theorem MpAt.step {et : TypeId} {hd : Value} {w w' : World} {base b : Nat} {sv : Value} {room : Nat} {l : List Z.En} (h : MpAt et hd w base b sv room l) (hb : Below w.heap.size w w') : MpAt et hd w' base b sv room l := h.keep (S := fun _ => False) (But.of_below hb) (fun _ hf => hf.elim)
/-- what a call makes of a map -/
structure MpTo (et : TypeId) (hd : Value) (w : World) (base b : Nat) (sv : Value) (room : Nat) (l : List Z.En) (w' : World) (sv' : Value) : Prop where
  at_ : MpAt et hd w' base b sv' room l
  but : But (Foot b sv) w w'
  new : ∀ k, sv'.ownBlock = some k → sv.ownBlock = some k ∨ w.heap.size ≤ k
theorem MpTo.self {et : TypeId} {hd : Value} {w w' : World} {base b : Nat} {sv : Value} {room : Nat} {l : List Z.En} (h : MpAt et hd w base b sv room l) (hb : Below w.heap.size w w') : MpTo et hd w base b sv room l w' sv := ⟨h.step hb, But.of_below hb, fun _ h => Or.inl h⟩
theorem MpTo.trans {et : TypeId} {hd : Value} {w w' w'' : World} {base b : Nat} {sv sv' sv'' : Value} {room : Nat} {l l' : List Z.En} (h : MpTo et hd w base b sv room l w' sv') (k : MpTo et hd w' base b sv' room l' w'' sv'') : MpTo et hd w base b sv room l' w'' sv'' := ⟨k.at_, h.but.trans k.but (fun x hx => by
    rcases hx with rfl | hx
    · exact Or.inl (Or.inl rfl)
    · rcases h.new x hx with h1 | h1
      · exact Or.inl (Or.inr h1)
      · exact Or.inr h1), fun x hx => by
    rcases k.new x hx with h1 | h1
    · exact h.new x h1
    · exact Or.inr (Nat.le_trans h.but.size h1)⟩
theorem MpTo.call {et : TypeId} {hd : Value} {w w' w'' : World} {base b : Nat} {sv sv' : Value} {room : Nat} {l : List Z.En} (h : MpTo et hd w base b sv room l w' sv') (hb : Below w'.heap.size w' w'') : MpTo et hd w base b sv room l w'' sv' := h.trans (MpTo.self h.at_ hb)
/-- behind an append, and the store of what it gave -/
theorem MpTo.stored {et : TypeId} {hd : Value} {w w1 : World} {base b : Nat} {sv sv' : Value} {room : Nat} {l l' : List Z.En} (h : MpAt et hd w base b sv room l) (hb : But (fun k => sv.ownBlock = some k) w w1) (hown : w1.ownsRow base et 5 sv' l'.length (cellsE l')) (hnew : ∀ k, sv'.ownBlock = some k → sv.ownBlock = some k ∨ w.heap.size ≤ k) : MpTo et hd w base b sv room l' (w1.setCell ⟨b, 2, none⟩ sv') sv' := by
  have hr : RowAt w1 b [hd, .int .i64 (room : Int), sv] := h.row.but hb (fun e => h.ne e)
  have hne : sv'.ownBlock ≠ some b := fun e => by
    rcases hnew b e with h1 | h1
    · exact h.ne h1
    · have := h.row.lt
      omega
  have hc := But.setCell w1 b 2 sv'
  refine ⟨⟨?_, own_but hown hc (fun g hg e => hne (e ▸ hg)), hne, h.ge⟩, (hb.mono (fun x hx => Or.inl (Or.inr hx))).trans hc (fun x hx => Or.inl (Or.inl hx)), hnew⟩
  refine ⟨fun j v hv => ?_, fun j hj => ?_⟩
  · rw [Nat.zero_add]
    have hth := hr.free
    match j, hv with
    | 0, hv => exact (World.cell?_setCell_other w1 _ _ _ (by intro e; injection e with _ e; cases e)).trans (hr.cell 0 v hv)
    | 1, hv => exact (World.cell?_setCell_other w1 _ _ _ (by intro e; injection e with _ e; cases e)).trans (hr.cell 1 v hv)
    | 2, hv =>
      have : v = sv' := by simp at hv; exact hv.symm
      subst this
      exact World.cell?_setCell_same w1 _ _ (hr.cell 2 _ rfl)
    | j + 3, hv => simp at hv
  · have := World.there_setCells (w := w1) hr.free b 2 [sv']
    exact this j hj
end Go.Proofs.Ythngbakbiocadaa

/-
  Where a key stands: find's closure, slices.IndexFunc over entries, find.
-/
namespace Go.Proofs.Ythngbakbiocadaa
set_option maxRecDepth 100000
open Go.RowKit Go.Maps

theorem pred_any (key : Int) (B : Nat) (x : Z.En) (w : World) (hB : B < w.heap.size) (hcell : w.cell? ⟨B, 0, none⟩ = some (.int .i64 key)) :
    Calls Try.prog 45 #[.agg #[.int .i64 x.key, .int .i64 x.a, .int .i64 x.b, .int .i64 x.c, .int .i64 x.d], .pointer (some ⟨B, 0, none⟩)] w fun e w' => e = .returned (.bool (decide (x.key = key))) ∧ Below w.heap.size w w' := by
  have hne : B ≠ w.heap.size := by omega
  obtain ⟨k, a, b, c, d⟩ := x
  go_enter Try.func45, Try.ntmps45
  go_wp2
  all_goals
    go_ret
    refine ⟨ret_bool ?_, (Below.refl _ _).alloc (Nat.le_refl _) _⟩
    first | rfl | (simp_all; done) | (rw [Bool.eq_iff_iff]; simp)
structure IxS (w0 : World) (A : Option Addr) (n : Nat) (xs : List Z.En) (B : Nat) (key : Int) (W : World) : Prop where
  ens : EnsAt W A n xs
  lt : B < W.heap.size
  cell : W.cell? ⟨B, 0, none⟩ = some (.int .i64 key)
  bel : Below w0.heap.size w0 W
theorem IxS.call {w0 : World} {A : Option Addr} {n : Nat} {xs : List Z.En} {B : Nat} {key : Int} {W W' : World} (k : IxS w0 A n xs B key W) (hb : Below W.heap.size W W') : IxS w0 A n xs B key W' :=
  ⟨k.ens.step hb, Nat.lt_of_lt_of_le k.lt hb.size, (hb.cell (p := ⟨B, 0, none⟩) k.lt).trans k.cell, k.bel.trans (hb.mono k.bel.size)⟩
set_option maxHeartbeats 1000000 in
theorem index_any (A : Option Addr) (n c : Nat) (xs : List Z.En) (key : Int) (B : Nat) (w : World) (h : EnsAt w A n xs) (hn : n ≤ 1000) (hB : B < w.heap.size) (hcell : w.cell? ⟨B, 0, none⟩ = some (.int .i64 key)) :
    Calls Try.prog 44 #[.slice A n c, .func (.func 45) #[] #[.pointer (some ⟨B, 0, none⟩)]] w fun e w' => e = .returned (.int .i64 (Z.posI key xs)) ∧ Below w.heap.size w w' := by
  have S0 : Hid (IxS w A n xs B key w) := Lib.hid ⟨h, hB, hcell, Below.refl _ _⟩
  have HL := Lib.hid h.len
  clear h hB hcell
  go_enter Try.func44, Try.ntmps44
  go_wp2
  go_loopw [5, 8] (fun _ i wr => ∃ k : Nat, k ≤ n ∧ i = .int .i64 (k : Int) ∧ Hid (∀ j y, j < k → xs[j]? = some y → y.key ≠ key) ∧ Hid (IxS w A n xs B key wr)) (fun _ i _ => n - (intOf i).toNat)
  case atStart => exact ⟨0, Nat.zero_le _, rfl, Lib.hid (fun j y hj => absurd hj (Nat.not_lt_zero _)), S0⟩
  case round =>
    clear S0
    obtain ⟨k, hk, rfl, HA, S⟩ := hrel
    by_cases hlt : k < n
    · obtain ⟨b, off, x, hA, hb, hx, hc⟩ := S.out.ens.get k hlt
      subst hA
      have HX := Lib.hid hx
      have HC := Lib.hid hc
      have hP := pred_any key B x wr S.out.lt S.out.cell
      clear hx hc hb
      by_cases hkey : x.key = key
      · rw [decide_eq_true hkey] at hP
        have HP := Lib.hid hP
        have HR : Hid (Z.posI key xs = (k : Int)) := Lib.hid (by unfold Z.posI; rw [Z.pos_of HX.out hkey HA.out])
        clear hP hkey
        go_wp2_with (first
          | ((with_reducible refine wpList_load_at enT HC.out (enL_length _) rfl (.tmp 14) rfl ?_ ?_); (exact rfl))
          | (go_at_call 45; refine (HP.out).mono ?_; rintro e w2 ⟨rfl, hb2⟩; replace S := Lib.hid (S.out.call hb2); clear hb2))
        go_ret
        exact ⟨ret_int HR.out.symm, S.out.bel⟩
      · rw [decide_eq_false hkey] at hP
        have HP := Lib.hid hP
        have HM : Hid (∀ j y, j < k + 1 → xs[j]? = some y → y.key ≠ key) := Lib.hid (fun j y hj hy => by
          by_cases e : j = k
          · subst e
            rw [HX.out] at hy
            injection hy with hy
            subst hy
            exact hkey
          · exact HA.out j y (by omega) hy)
        clear hP hkey
        go_wp2_with (first
          | ((with_reducible refine wpList_load_at enT HC.out (enL_length _) rfl (.tmp 14) rfl ?_ ?_); (exact rfl))
          | (go_at_call 45; refine (HP.out).mono ?_; rintro e w2 ⟨rfl, hb2⟩; replace S := Lib.hid (S.out.call hb2); clear hb2))
        go_roundw
        case rel => exact ⟨k + 1, by omega, by go_num, HM, S⟩
        case measure => (simp [intOf] <;> omega)
    · obtain rfl : k = n := by omega
      have HR : Hid (Z.posI key xs = -1) := Lib.hid (by
        unfold Z.posI
        rw [Z.pos_nil (fun e he => by
          obtain ⟨i, hi, rfl⟩ := List.getElem_of_mem he
          exact HA.out i _ (by rw [← HL.out]; exact hi) (List.getElem?_eq_getElem hi))])
      clear hlt
      go_wp2
      go_ret
      exact ⟨ret_int HR.out.symm, S.out.bel⟩
/-- what find is told of: nobody, or a map -/
theorem find_nil (key : Int) (w : World) : Calls Try.prog 32 #[.pointer none, .int .i64 key] w fun e w' => e = .returned (.int .i64 (-1)) ∧ Below w.heap.size w w' := by
  go_enter Try.func32, Try.ntmps32
  go_wp2
  go_ret
  exact ⟨rfl, (Below.refl _ _).alloc (Nat.le_refl _) _⟩
theorem own_ens {w : World} {base : Nat} {t : TypeId} {A : Option Addr} {n c : Nat} {xs : List Z.En} (h : w.ownsRow base t 5 (.slice A n c) n (cellsE xs)) (hn : n = xs.length) : EnsAt w A n xs := ⟨hn.symm, own_many h⟩
set_option maxHeartbeats 1000000 in
theorem find_any (hd : Value) (base b : Nat) (sv : Value) (room : Nat) (l : List Z.En) (key : Int) (w : World) (h : MpAt 74 hd w base b sv room l) (hn : l.length ≤ 1000) :
    Calls Try.prog 32 #[.pointer (some ⟨b, 0, none⟩), .int .i64 key] w fun e w' => e = .returned (.int .i64 (Z.posI key l)) ∧ Below w.heap.size w w' := by
  obtain ⟨A, c, rfl⟩ := owns_slice h.own
  have hb := h.row.lt
  have hw := (Below.refl w.heap.size w).alloc (Nat.le_refl _) (.cells #[.int .i64 key] 3)
  have hc := (h.step hw).row.cell 2 _ rfl
  have HI := Lib.hid (index_any A l.length c l key w.heap.size (w.alloc (.cells #[.int .i64 key] 3)) (own_ens (h.step hw).own rfl) hn (by simp) (by simp))
  have HW := Lib.hid hw
  clear hw h
  go_enter Try.func32, Try.ntmps32
  go_wp2_with (go_at_call 44; refine (HI.out).mono ?_; rintro e w2 ⟨rfl, hb2⟩; have HB := Lib.hid (HW.out.trans (hb2.mono HW.out.size)); clear hb2)
  go_ret
  exact ⟨rfl, HB.out⟩
end Go.Proofs.Ythngbakbiocadaa

/-
  A region whose head only reads, or calls what leaves the world as it is, and whose tail is forced: one line an operation.
-/
namespace Go.Proofs.Ythngbakbiocadaa
set_option maxRecDepth 100000
open Go.RowKit

structure Ws (ops : Array Oper) (w : World) (Q : Act → Prop) (l : List Oper) (a : Act) : Prop where
  open_ : wpStill Try.prog ops w Q l a
theorem ws_region {id : Nat} {Q : Exit → Act → World → Prop} {a : Act} {w : World} {l : List Oper} (n : Nat) (hB : Region.lexTailB .any l.toArray n = true)
    (h : Ws l.toArray w.drew (fun a' => wpList Try.prog l.toArray Q (l.drop n) a' w.drew) (l.take n) a) : (Code.region id l.toArray true).wp Try.prog Q a w :=
  wp_region_still_tail n (by kernel_rfl) hB h.open_
section
variable {ops : Array Oper} {rest : List Oper} {op : Oper} {a : Act} {Q : Act → Prop} {w : World}
theorem ws_nil (h : Q a) : Ws ops w Q [] a := ⟨wpStill_nil h⟩
theorem ws_pass (hw : Region.wanted op (yielded ops a.tmps) = false) (h : Ws ops w Q rest (a.put op.dst undef)) : Ws ops w Q (op :: rest) a := ⟨by
  unfold wpStill
  rw [hw]
  exact h.open_⟩
theorem ws_take (v : Value) (hw : Region.wanted op (yielded ops a.tmps) = true) (hrun : (execOp a.eval op).run Try.prog w = .ok (.value v) w)
    (h : Ws ops w Q rest (a.put op.dst v)) : Ws ops w Q (op :: rest) a := ⟨by
  unfold wpStill
  rw [hw, if_pos rfl]
  unfold Oper.still
  rw [hrun]
  exact ⟨rfl, h.open_⟩⟩
theorem ws_call (f : FuncId) (args : Array Value) (v : Value) (hw : Region.wanted op (yielded ops a.tmps) = true) (hrun : (execOp a.eval op).run Try.prog w = .ok (.enter f args) w)
    (hcall : Calls Try.prog f args w fun e w' => e = .returned v ∧ w = w') (h : Ws ops w Q rest (a.put op.dst v)) : Ws ops w Q (op :: rest) a := ⟨by
  unfold wpStill
  rw [hw, if_pos rfl]
  unfold Oper.still
  rw [hrun]
  exact ⟨rfl, v, hcall.mono fun e w' h => ⟨h.1, h.2.symm⟩, h.open_⟩⟩
theorem ws_at {t : TypeId} {n b o : Nat} {vs : List Value} (ht : RowT t n) (hl : vs.length = n) (x : Operand) (ho : op.op = .load t x) (hx : a.eval x = .pointer (some ⟨b, o, none⟩)) (hw : Region.wanted op (yielded ops a.tmps) = true)
    (hC : w.rangeAt b o vs) (h : Ws ops w Q rest (a.put op.dst (.agg vs.toArray))) : Ws ops w Q (op :: rest) a := by
  refine ws_take (.agg vs.toArray) hw ?_ h
  obtain ⟨d, hd, hr⟩ := ht.row
  unfold execOp
  have := run_loadVar_mid (P := Try.prog) w b o t vs d hC hd hr (by rw [ht.info, hl])
  simp only [ho, hx, Instr.loadAt, Instr.sureAddr, Sem.run_bind, Sem.run_pure, Result.andThen_ok, this]
end
end Go.Proofs.Ythngbakbiocadaa

/-
  slices.Delete of one entry; remove.
-/
namespace Go.Proofs.Ythngbakbiocadaa
set_option maxRecDepth 100000
open Go.RowKit Go.Maps

theorem own_cut {w : World} {base : Nat} {t : TypeId} {g n cap k : Nat} {xs : List Value} (h : w.ownsRow base t 5 (.slice (some ⟨g, 0, none⟩) n cap) n xs) (hk : k ≤ n) : w.ownsRow base t 5 (.slice (some ⟨g, 0, none⟩) k cap) k (xs.take (k * 5)) := by
  refine ⟨by rw [List.length_take, h.1]; omega, ?_⟩
  rcases h.2 with ⟨e, _⟩ | ⟨g', cap', cur, e, hb, hg, hnc, hcm, hsz, htk⟩
  · cases e
  · injection e with e1 _ e2
    injection e1 with e1
    injection e1 with e1
    subst e1 e2
    refine Or.inr ⟨g, cap, cur, rfl, hb, hg, by omega, hcm, hsz, ?_⟩
    rw [← htk, List.take_take, Nat.min_eq_left (by omega)]
theorem own_cap {w : World} {base : Nat} {t : TypeId} {g n cap : Nat} {xs : List Value} (h : w.ownsRow base t 5 (.slice (some ⟨g, 0, none⟩) n cap) n xs) : n ≤ cap ∧ cap ≤ maxLen ∧ g < w.heap.size ∧ base ≤ g := by
  rcases h.2 with ⟨e, _⟩ | ⟨g', cap', cur, e, hb, hg, hnc, hcm, hsz, htk⟩
  · cases e
  · injection e with e1 _ e2
    injection e1 with e1
    injection e1 with e1
    subst e1 e2
    exact ⟨hnc, hcm, (Array.getElem?_eq_some_iff.1 hg).1, hb⟩
theorem own_there {w : World} {base : Nat} {t : TypeId} {g n cap : Nat} {xs : List Value} (h : w.ownsRow base t 5 (.slice (some ⟨g, 0, none⟩) n cap) n xs) (o k : Nat) (hk : o + k ≤ cap * 5) : w.there g o k := by
  rcases h.2 with ⟨e, _⟩ | ⟨g', cap', cur, e, hb, hg, hnc, hcm, hsz, htk⟩
  · cases e
  · injection e with e1 _ e2
    injection e1 with e1
    injection e1 with e1
    subst e1 e2
    intro j hj
    refine ⟨?_, frozen_of_row w g _ cur t hg⟩
    rw [cell_of_row w g _ cur t (0, 0) hg, Array.getElem?_eq_getElem (by omega)]
    rfl
theorem own_beyond {w : World} {base : Nat} {t : TypeId} {g n cap : Nat} {xs : List Value} (h : w.ownsRow base t 5 (.slice (some ⟨g, 0, none⟩) n cap) n xs) (o : Nat) (v : Value) (ho : n * 5 ≤ o) : (w.setCell ⟨g, o, none⟩ v).ownsRow base t 5 (.slice (some ⟨g, 0, none⟩) n cap) n xs := by
  refine ⟨h.1, ?_⟩
  rcases h.2 with ⟨e, _⟩ | ⟨g', cap', cur, e, hb, hg, hnc, hcm, hsz, htk⟩
  · cases e
  · injection e with e1 _ e2
    injection e1 with e1
    injection e1 with e1
    subst e1 e2
    refine Or.inr ⟨g, cap, cur.setIfInBounds o v, rfl, hb, heap_setCell_same w g o cur t v hg, hnc, hcm, by simpa using hsz, ?_⟩
    rw [Array.toList_setIfInBounds, List.take_set_of_le ho, htk]
theorem own_beyonds {base : Nat} {t : TypeId} {g n cap : Nat} {xs : List Value} : ∀ (vs : List Value) (o : Nat) (w : World), w.ownsRow base t 5 (.slice (some ⟨g, 0, none⟩) n cap) n xs → n * 5 ≤ o → (w.setCells g o vs).ownsRow base t 5 (.slice (some ⟨g, 0, none⟩) n cap) n xs
  | [], _, _, h, _ => h
  | v :: r, o, w, h, ho => by
    rw [World.setCells]
    exact own_beyonds r (o + 1) _ (own_beyond h o v ho) (by omega)
def zero5 : List Value := [.int .i64 0, .int .i64 0, .int .i64 0, .int .i64 0, .int .i64 0]
theorem run_clear_en (w : World) (ty : TypeId) (g o c : Nat) (hth : w.there g o 5) :
    (Builtin.clear_ #[35] ty #[.slice (some ⟨g, o, none⟩) 1 c]).run Try.prog w = .ok (.tuple #[]) (w.setCells g o zero5) := by
  have hz : (zeroValue 74).run Try.prog w = .ok (.agg #[.int .i64 0, .int .i64 0, .int .i64 0, .int .i64 0, .int .i64 0]) w := by kernel_rfl
  have hzc : (Builtin.zeroCells (Value.agg #[.int .i64 0, .int .i64 0, .int .i64 0, .int .i64 0, .int .i64 0]).cells 1).toList = zero5 := by kernel_rfl
  have hst := run_storeCells_cells (P := Try.prog) g o zero5 0 w (fun j hj => by rw [Nat.add_zero]; exact (hth j hj).1) (fun j hj => by rw [Nat.add_zero]; exact (hth j hj).2) (by
    intro v hv
    simp only [zero5, List.mem_cons, List.not_mem_nil, or_false] at hv
    rcases hv with rfl | rfl | rfl | rfl | rfl <;> rfl)
  rw [Nat.add_zero] at hst
  simp only [Builtin.clear_, run_underlying Try.underlying35, Sem.run_bind, Sem.run_pure, Result.andThen_ok, List.getElem?_toArray, List.getElem?_cons_zero, hz, hzc, hst]
theorem wpList_clear_en {ops : Array Oper} {rest : List Oper} {op : Oper} {a : Act} {Q : Exit → Act → World → Prop} {w : World} (g o n c : Nat) (h1 : n = 1) (hth : w.there g o 5) (hgd : op.guard = none) (v : Operand) (cl : Call) (ho : op.op = .call cl) (hc : cl.callee = .builtin .clear) (ha : cl.args = #[v]) (ht : cl.argTypes = #[35])
    (hv : a.eval v = .slice (some ⟨g, o, none⟩) n c) (h : wpList Try.prog ops Q rest (a.put op.dst (.tuple #[])) (w.setCells g o zero5)) : wpList Try.prog ops Q (op :: rest) a w :=
  wpList_plain hgd fun _ hK => by
    subst h1
    have hr : (execOp a.eval op).run Try.prog w = .ok (.value (.tuple #[])) (w.setCells g o zero5) := by
      unfold execOp
      simp [ho, resolve, hc, ha, ht, hv, Go.invoke, Go.builtin, run_clear_en w _ g o c hth]
    unfold Oper.wp
    rw [hr]
    exact hK _ _ h
theorem erase_parts (l : List Z.En) (i : Nat) : l.eraseIdx i = l.take i ++ l.drop (i + 1) := List.eraseIdx_eq_take_drop_succ l i
theorem wpList_append_fits {ops : Array Oper} {rest : List Oper} {o : Oper} {a : Act} {Q : Exit → Act → World → Prop} {w : World} (hgd : o.guard = none) (s x : Operand) (t : TypeId)
    (ho : o.op = .call { callee := .builtin .append, args := #[s, x], argTypes := #[t, t] })
    (base : Nat) (e : TypeId) (i : TypeInfo) (size : Nat) (ht : Try.prog.underlying t = some (.slice e)) (hi : Try.prog.info? e = some i) (hsize : i.size = size)
    (g n cap : Nat) (xs : List Value) (hs : a.eval s = .slice (some ⟨g, 0, none⟩) n cap) (hown : w.ownsRow base e size (.slice (some ⟨g, 0, none⟩) n cap) n xs)
    (ad : Addr) (m c : Nat) (news : List Value) (hx : a.eval x = .slice (some ad) m c) (hl : news.length = m * size) (hnews : ∀ j u, news[j]? = some u → w.cell? (ad.add j) = some u) (h1 : ∀ u ∈ news, u.oneCell' = true)
    (hroom : n + m ≤ cap)
    (h : ∀ w', w'.ownsRow base e size (.slice (some ⟨g, 0, none⟩) (n + m) cap) (n + m) (xs ++ news) → w.grownBy w' (some g) → wpList Try.prog ops Q rest (a.put o.dst (.slice (some ⟨g, 0, none⟩) (n + m) cap)) w') :
    wpList Try.prog ops Q (o :: rest) a w := by
  refine wpList_plain hgd fun K hK => ?_
  obtain ⟨w', hr, h2, h3⟩ := run_append_fits (P := Try.prog) w base t o.type e i size ht hi hsize g n cap xs hown ad m c news hl hnews h1 hroom
  unfold Oper.wp execOp
  simp only [ho, resolve, invoke, builtin, Sem.run_bind, Sem.run_pure, Result.andThen_ok, List.map_toArray, List.map_cons, List.map_nil, hs, hx, hr]
  exact hK _ _ (h w' h2 h3)
set_option maxHeartbeats 2000000 in
theorem del_any (base g n cap i j : Nat) (l : List Z.En) (w : World) (h : w.ownsRow base 74 5 (.slice (some ⟨g, 0, none⟩) n cap) n (cellsE l)) (hi : i < n) (hj : j = i + 1) (hn : n ≤ 1000) :
    Calls Try.prog 46 #[.slice (some ⟨g, 0, none⟩) n cap, .int .i64 (i : Int), .int .i64 (j : Int)] w fun e w' => e = .returned (.slice (some ⟨g, 0, none⟩) (n - 1) cap) ∧
      w'.ownsRow base 74 5 (.slice (some ⟨g, 0, none⟩) (n - 1) cap) (n - 1) (cellsE (l.eraseIdx i)) ∧ But (fun k => k = g) w w' := by
  obtain ⟨hnc, hcm, hgl, hbg⟩ := own_cap h
  have hln : l.length = n := by have := h.1; rw [cellsE_length] at this; omega
  obtain ⟨m, hm⟩ : ∃ m, n = m + 1 := ⟨n - 1, by omega⟩
  have HM : Hid (i + (n - j) = m) := Lib.hid (by omega)
  have HE : Hid (cellsE (l.take i) ++ cellsE (l.drop j) = cellsE (l.eraseIdx i)) := Lib.hid (by rw [erase_parts, cellsE_app, hj])
  have HOwn : Hid (w.drew.ownsRow base 74 5 (.slice (some ⟨g, 0, none⟩) i cap) i (cellsE (l.take i))) := Lib.hid (by rw [cellsE_take]; exact own_cut h (by omega))
  have HL : Hid ((cellsE (l.drop j)).length = (n - j) * 5) := Lib.hid (by rw [cellsE_length, List.length_drop, hln])
  obtain ⟨A, hA, HS⟩ : ∃ A : Addr, (if cap = j then (some ⟨g, 0, none⟩ : Option Addr) else some ⟨g, j * 5, none⟩) = some A ∧ Hid (∀ t u, (cellsE (l.drop j))[t]? = some u → w.drew.cell? (A.add t) = some u) := by
    by_cases hc : cap = j
    · refine ⟨⟨g, 0, none⟩, by rw [if_pos hc], fun t u hu => ?_⟩
      have : (cellsE (l.drop j)).length = 0 := by rw [HL.out]; omega
      rw [List.length_eq_zero_iff.1 this] at hu
      simp at hu
    · refine ⟨⟨g, j * 5, none⟩, by rw [if_neg hc], fun t u hu => ?_⟩
      rw [cellsE_drop, List.getElem?_drop] at hu
      have h2 := h.cells (g := g) rfl (j * 5 + t) u hu
      have e1 : (⟨g, j * 5, none⟩ : Addr).add t = (⟨g, 0, none⟩ : Addr).add (j * 5 + t) := by unfold Addr.add; split <;> split <;> simp_all <;> omega
      rw [e1]
      exact h2
  obtain ⟨i0, hi0, hz0, hs0, hb0⟩ := info_parts info_en
  have HI0 := Lib.hid hi0
  have HS0 := Lib.hid hs0
  have HB : Hid (n - 1 = m) := Lib.hid (by omega)
  have hij : i < j := by omega
  have hjn : j ≤ n := by omega
  have hic : i ≤ cap := by omega
  have hjc : j ≤ cap := by omega
  have hmn : m < n := by omega
  have hnm : n - m = 1 := by omega
  have HF : Hid (m * 5 + 5 ≤ cap * 5) := Lib.hid (by omega)
  have HR : Hid (i + (n - j) ≤ cap) := Lib.hid (by omega)
  have hne : ¬ (i = j) := by omega
  rw [HB.out]
  have hmc : m < cap := by omega
  have hcap63 : cap ≤ 9223372036854775807 := by unfold maxLen at hcm; omega
  clear h hm hj hi0 hz0 hs0 hb0 hln hcm hi
  go_enter Try.func46, Try.ntmps46
  go_upto_region 5 with fail
  refine ws_region 6 (by kernel_rfl) ?_
  simp only [List.take_succ_cons, List.take_zero, List.drop_succ_cons, List.drop_zero]
  refine ws_take (.slice (some ⟨g, 0, none⟩) n cap) (by kernel_rfl) ?_ ?_
  · (go_simp)
  (try simp only [Act.put, List.setIfInBounds_toArray, List.set_cons_zero, List.set_cons_succ])
  refine ws_take (.int .i64 (i : Int)) (by kernel_rfl) ?_ ?_
  · (go_simp)
  (try simp only [Act.put, List.setIfInBounds_toArray, List.set_cons_zero, List.set_cons_succ])
  refine ws_take (.slice (some ⟨g, 0, none⟩) i cap) (by kernel_rfl) ?_ ?_
  · (go_simp)
  (try simp only [Act.put, List.setIfInBounds_toArray, List.set_cons_zero, List.set_cons_succ])
  refine ws_take (.slice (some ⟨g, 0, none⟩) n cap) (by kernel_rfl) ?_ ?_
  · (go_simp)
  (try simp only [Act.put, List.setIfInBounds_toArray, List.set_cons_zero, List.set_cons_succ])
  refine ws_take (.int .i64 (j : Int)) (by kernel_rfl) ?_ ?_
  · (go_simp)
  (try simp only [Act.put, List.setIfInBounds_toArray, List.set_cons_zero, List.set_cons_succ])
  refine ws_take (.slice (some A) (n - j) (cap - j)) (by kernel_rfl) ?_ ?_
  · (go_simp)
  (try simp only [Act.put, List.setIfInBounds_toArray, List.set_cons_zero, List.set_cons_succ])
  refine ws_nil ?_
  refine wpList_append_fits rfl (.tmp 22) (.tmp 25) 35 rfl base 74 i0 5 Try.underlying35 HI0.out HS0.out g i cap _ rfl HOwn.out A (n - j) (cap - j) _ rfl HL.out HS.out (cellsE_one _) HR.out ?_
  intro w1 hown hgr
  rw [HM.out, HE.out] at hown
  rw [HM.out]
  have HO := Lib.hid hown
  have HG := Lib.hid hgr
  have HT := Lib.hid (own_there hown (m * 5) 5 HF.out)
  have HB1 : Hid (But (fun k => k = g) w w1) := Lib.hid (((But.drew _ w).trans (But.of_grown hgr) (fun x hx => Or.inl (by injection hx with hx; exact hx.symm))))
  clear hown hgr HOwn HS HL
  go_wp2_with (first
    | ((with_reducible refine wpList_clear_en g (m * 5) 1 (cap - m) rfl HT.out rfl (.tmp 31) _ rfl rfl rfl rfl ?_ ?_); (exact rfl)))
  go_ret
  refine ⟨rfl, own_beyonds _ _ _ HO.out (Nat.le_refl _), HB1.out.trans (But.setCells g _ _ _) (fun x hx => Or.inl hx)⟩
/-- remove: the entry that stands there is gone -/
theorem rem_any (hd : Value) (base b : Nat) (sv : Value) (room : Nat) (l : List Z.En) (i : Nat) (w : World) (h : MpAt 74 hd w base b sv room l) (hi : i < l.length) (hn : l.length ≤ 1000) :
    Calls Try.prog 35 #[.pointer (some ⟨b, 0, none⟩), .int .i64 (i : Int)] w fun e w' => e = .returned (.tuple #[]) ∧ ∃ sv', MpTo 74 hd w base b sv room (l.eraseIdx i) w' sv' := by
  obtain ⟨x, hx⟩ : ∃ x, l[i]? = some x := ⟨_, List.getElem?_eq_getElem hi⟩
  obtain ⟨g, cap, hsv, hnc, hcm, hbg, hgl, _⟩ := own_range h.own hx
  subst hsv
  have hgb : g ≠ b := fun e => h.ne (by rw [e]; rfl)
  have hc2 := h.row.cell 2 _ rfl
  have H := Lib.hid h
  have HD0 := del_any base g l.length cap i (i + 1) l w h.own hi rfl hn
  rw [show ((i + 1 : Nat) : Int) = (i : Int) + 1 by omega] at HD0
  have HD := Lib.hid HD0
  clear HD0
  have HL : Hid ((l.eraseIdx i).length = l.length - 1) := Lib.hid (by rw [List.length_eraseIdx, if_pos hi])
  have hw : IntKind.i64.wrap ((i : Int) + 1) = (i : Int) + 1 := by rw [IntKind.wrap_i64]; omega
  clear h hx hnc hcm hbg hi
  go_enter Try.func35, Try.ntmps35
  go_wp2_with (go_at_call 46; refine (HD.out).mono ?_; rintro e w2 ⟨rfl, hown, hbut⟩; have HO := Lib.hid hown; have HB := Lib.hid hbut; have hr2 := H.out.row.but hbut (fun e => hgb e.symm); have hc3 := hr2.cell 2 _ rfl; have hf3 := hr2.frozen 2 (show 2 < 3 by decide); clear hown hbut hr2)
  go_end0
  refine ⟨rfl, .slice (some ⟨g, 0, none⟩) (l.length - 1) cap, ?_⟩
  refine MpTo.stored H.out (HB.out.mono (fun x hx => Or.inl (by rw [hx]; rfl))) ?_ (fun k hk => Or.inl hk)
  rw [HL.out]
  exact HO.out
end Go.Proofs.Ythngbakbiocadaa

/-
  A region that draws its order, gone through in ONE order: each operation either gives the same value in every world of a kind and keeps it of that kind (a call that makes memory too), or is one of a few that turn the kind and wait for one another.
-/
namespace Go.Proofs.Ythngbakbiocadaa
set_option maxRecDepth 100000
open Go.RowKit

section
variable {P : Program} {ops : Array Oper} {Q : Exit → Act → World → Prop} {md : Region.Mode} {σ : Type} {S : σ → World → Prop} {sp : Nat → Bool} {vals : Nat → Value}

/-- what an operation gives, and the world behind it -/
def Gives (P : Program) (m : Sem Next) (w : World) (R : Value → World → Prop) : Prop :=
  match m.run P w with
  | .ok (.value u) w' => R u w'
  | .ok .skip w' => R undef w'
  | .ok (.enter f args) w' => Calls P f args w' fun e w'' => ∃ u, e = .returned u ∧ R u w''
  | _ => False
theorem Gives.mono {m : Sem Next} {w : World} {R R' : Value → World → Prop} (h : Gives P m w R) (hr : ∀ u w', R u w' → R' u w') : Gives P m w R' := by
  unfold Gives at *
  generalize m.run P w = r at *
  cases r with
  | halt x w' => exact h
  | ok n w' =>
    cases n <;> simp only at h ⊢
    case value u => exact hr _ _ h
    case skip => exact hr _ _ h
    case enter f args => exact h.mono fun e w'' ⟨u, hu, hR⟩ => ⟨u, hu, hr _ _ hR⟩
theorem Gives.wp {o : Oper} {a : Act} {w : World} {R : Value → World → Prop} {K : Act → World → Prop} (h : Gives P (execOp a.eval o) w R) (hK : ∀ u w', R u w' → K (a.put o.dst u) w') : Oper.wp P o a w K Q := by
  unfold Gives at h
  unfold Oper.wp
  generalize (execOp a.eval o).run P w = r at *
  cases r with
  | halt x w' => exact h.elim
  | ok n w' =>
    cases n <;> simp only [Oper.upon] at h ⊢
    case value u => exact hK _ _ h
    case skip => exact hK _ _ h
    case enter f args =>
      refine h.mono fun e w'' ⟨u, hu, hR⟩ => ?_
      subst hu
      exact hK _ _ hR
theorem gives_value {m : Sem Next} {w : World} {R : Value → World → Prop} {v : Value} (h : m.run P w = .ok (.value v) w) (hR : R v w) : Gives P m w R := by
  unfold Gives; rw [h]; exact hR
theorem gives_to {m : Sem Next} {w w' : World} {R : Value → World → Prop} {v : Value} (h : m.run P w = .ok (.value v) w') (hR : R v w') : Gives P m w R := by
  unfold Gives; rw [h]; exact hR
theorem gives_call {m : Sem Next} {w : World} {R : Value → World → Prop} {f : FuncId} {args : Array Value} (h : m.run P w = .ok (.enter f args) w) (hR : Calls P f args w fun e w'' => ∃ u, e = .returned u ∧ R u w'') : Gives P m w R := by
  unfold Gives; rw [h]; exact hR

/-- in every world of every kind: the same value, the same kind -/
def OrdAt (P : Program) (ops : Array Oper) (S : σ → World → Prop) (o : Oper) (v : Value) (a : Act) : Prop :=
  (Region.wanted o (yielded ops a.tmps) = true ∧ ∀ s w, S s w → Gives P (execOp a.eval o) w fun u w' => u = v ∧ S s w') ∨
  (Region.wanted o (yielded ops a.tmps) = false ∧ v = undef)
/-- in every world of this kind: a value and a kind that go together -/
def SpecAt (P : Program) (ops : Array Oper) (S : σ → World → Prop) (s : σ) (o : Oper) (a : Act) (N : Value → σ → Prop) : Prop :=
  Region.wanted o (yielded ops a.tmps) = true ∧ ∀ w, S s w → Gives P (execOp a.eval o) w fun u w' => ∃ s', N u s' ∧ S s' w'

theorem OrdAt.put {oi oj : Oper} {v u : Value} {a : Act} (hs : ∀ cs b, oi.op ≠ .select cs b) (h : ∀ d, oj.dst = some d → d ∉ oi.looksAt ops) (hy : OrdAt P ops S oi v a) : OrdAt P ops S oi v (a.put oj.dst u) := by
  unfold OrdAt at *
  rw [execOp_put oi hs a oj.dst u h, wanted_put oi a oj.dst u h]
  exact hy
theorem OrdAt.unput {oi oj : Oper} {v u : Value} {a : Act} (hs : ∀ cs b, oj.op ≠ .select cs b) (h : ∀ d, oi.dst = some d → d ∉ oj.looksAt ops) (hy : OrdAt P ops S oj v (a.put oi.dst u)) : OrdAt P ops S oj v a := by
  unfold OrdAt at *
  rw [execOp_put oj hs a oi.dst u h, wanted_put oj a oi.dst u h] at hy
  exact hy
theorem SpecAt.put {oi oj : Oper} {s : σ} {u : Value} {N : Value → σ → Prop} {a : Act} (hs : ∀ cs b, oi.op ≠ .select cs b) (h : ∀ d, oj.dst = some d → d ∉ oi.looksAt ops) (hy : SpecAt P ops S s oi a N) : SpecAt P ops S s oi (a.put oj.dst u) N := by
  unfold SpecAt at *
  rw [execOp_put oi hs a oj.dst u h, wanted_put oi a oj.dst u h]
  exact hy
theorem SpecAt.unput {oi oj : Oper} {s : σ} {u : Value} {N : Value → σ → Prop} {a : Act} (hs : ∀ cs b, oj.op ≠ .select cs b) (h : ∀ d, oi.dst = some d → d ∉ oj.looksAt ops) (hy : SpecAt P ops S s oj (a.put oi.dst u) N) : SpecAt P ops S s oj a N := by
  unfold SpecAt at *
  rw [execOp_put oj hs a oi.dst u h, wanted_put oj a oi.dst u h] at hy
  exact hy

/-- nobody who may come ahead of it touches what it looks at or writes -/
def FreeAt (md : Region.Mode) (ops : Array Oper) (listed : Array Bool) (i : Nat) (oi : Oper) : Prop :=
  ∀ j oj, ops[j]? = some oj → j ≠ i → listed.getD j true = false → (∀ e ∈ oj.after, Region.binds md e = true → e.on ≠ i) → oi.apart ops oj = true
theorem unlisted_set {listed : Array Bool} {j k : Nat} (h : (listed.setIfInBounds j true).getD k true = false) : listed.getD k true = false := by
  by_cases hjk : j = k
  · subst hjk
    rcases Nat.lt_or_ge j listed.size with h' | h'
    · simp [h'] at h
    · simp at h
  · rw [getD_set_ne true hjk] at h; exact h
theorem FreeAt.set {listed : Array Bool} {i j : Nat} {oi : Oper} (h : FreeAt md ops listed i oi) : FreeAt md ops (listed.setIfInBounds j true) i oi :=
  fun k ok hk hki hun hno => h k ok hk hki (unlisted_set hun) hno
theorem waits_not {listed : Array Bool} {i j : Nat} {oj : Oper} (hr : i ∈ Region.ready md ops listed) (hj : j ∈ Region.ready md ops listed) (hoj : ops[j]? = some oj) : ∀ e ∈ oj.after, Region.binds md e = true → e.on ≠ i := by
  intro e he hb heq
  obtain ⟨_, o, ho, hall⟩ := mem_ready.1 hj
  rw [hoj] at ho
  injection ho with ho
  subst ho
  have h1 := hall e he hb
  have h0 := (mem_ready.1 hr).1
  rw [heq] at h1
  rcases Nat.lt_or_ge i listed.size with h' | h'
  · simp [h'] at h0 h1; rw [h0] at h1; cases h1
  · simp [Array.getElem?_eq_none h'] at h1

/-- all others that turn the kind wait for this one, it may be through others (D) that wait for it -/
def WaitsFor (md : Region.Mode) (ops : Array Oper) (sp : Nat → Bool) (listed : Array Bool) (i : Nat) (D : Nat → Bool) : Prop :=
  (∀ k ok, ops[k]? = some ok → sp k = true → k ≠ i → listed.getD k true = false → D k = true) ∧
  (∀ u, D u = true → u ≠ i ∧ listed.getD u true = false ∧ ∃ ou, ops[u]? = some ou ∧ ∃ e ∈ ou.after, Region.binds md e = true ∧ (e.on = i ∨ D e.on = true))
theorem WaitsFor.not_ready {sp : Nat → Bool} {listed : Array Bool} {i : Nat} {D : Nat → Bool} (h : WaitsFor md ops sp listed i D) (hr : i ∈ Region.ready md ops listed) {j : Nat} (hj : j ∈ Region.ready md ops listed) : D j = false := by
  cases hD : D j with
  | false => rfl
  | true =>
    exfalso
    obtain ⟨_, _, ou, hou, e, he, hb, hon⟩ := h.2 j hD
    rcases hon with hon | hon
    · exact waits_not hr hj hou e he hb hon
    · obtain ⟨_, hun, ou2, hou2, _⟩ := h.2 e.on hon
      obtain ⟨_, o, ho, hall⟩ := mem_ready.1 hj
      rw [hou] at ho
      injection ho with ho
      subst ho
      have h1 := hall e he hb
      rcases Nat.lt_or_ge e.on listed.size with h' | h'
      · simp [h'] at h1 hun; rw [h1] at hun; cases hun
      · simp [Array.getElem?_eq_none h'] at hun
theorem WaitsFor.set {sp : Nat → Bool} {listed : Array Bool} {i : Nat} {D : Nat → Bool} (h : WaitsFor md ops sp listed i D) (hr : i ∈ Region.ready md ops listed) {j : Nat} (hj : j ∈ Region.ready md ops listed) : WaitsFor md ops sp (listed.setIfInBounds j true) i D := by
  refine ⟨fun k ok hk hks hki hun => h.1 k ok hk hks hki (unlisted_set hun), fun u hu => ?_⟩
  obtain ⟨h1, h2, h3⟩ := h.2 u hu
  refine ⟨h1, ?_, h3⟩
  have hne : j ≠ u := fun e => by rw [← e, h.not_ready hr hj] at hu; cases hu
  rw [getD_set_ne true hne]; exact h2
/-- one order, step by step -/
inductive Lin (P : Program) (md : Region.Mode) (ops : Array Oper) (Q : Exit → Act → World → Prop) (S : σ → World → Prop) (sp : Nat → Bool) (vals : Nat → Value) : Nat → σ → Array Bool → Act → Prop
  | done {n : Nat} {s : σ} {listed : Array Bool} {a : Act} (hr : Region.ready md ops listed = []) (hQ : ∀ w, S s w → Q .normal a w) : Lin P md ops Q S sp vals n s listed a
  | ord {n : Nat} {s : σ} {listed : Array Bool} {a : Act} (i : Nat) (o : Oper) (hi : ops[i]? = some o) (hr : i ∈ Region.ready md ops listed) (hf : FreeAt md ops listed i o) (hsp : sp i = false)
      (hy : OrdAt P ops S o (vals i) a) (h : Lin P md ops Q S sp vals n s (listed.setIfInBounds i true) (a.put o.dst (vals i))) : Lin P md ops Q S sp vals (n + 1) s listed a
  | spec {n : Nat} {s : σ} {listed : Array Bool} {a : Act} (i : Nat) (o : Oper) (N : Value → σ → Prop) (hi : ops[i]? = some o) (hr : i ∈ Region.ready md ops listed) (hf : FreeAt md ops listed i o) (hsp : sp i = true)
      (hw : ∃ D : Nat → Bool, WaitsFor md ops sp listed i D)
      (hN : ∃ u s', N u s') (hy : SpecAt P ops S s o a N) (h : ∀ u s', N u s' → Lin P md ops Q S sp vals n s' (listed.setIfInBounds i true) (a.put o.dst u)) : Lin P md ops Q S sp vals (n + 1) s listed a

variable (hsel : ∀ (j : Nat) (o : Oper) cs b, ops[j]? = some o → o.op ≠ .select cs b)
include hsel

theorem Lin.first : ∀ (n : Nat) (s : σ) (listed : Array Bool) (a : Act) (j : Nat) (oj : Oper), Lin P md ops Q S sp vals n s listed a → j ∈ Region.ready md ops listed → ops[j]? = some oj → sp j = false →
    OrdAt P ops S oj (vals j) a ∧ ∃ m, n = m + 1 ∧ Lin P md ops Q S sp vals m s (listed.setIfInBounds j true) (a.put oj.dst (vals j)) := by
  intro n
  induction n with
  | zero =>
    intro s listed a j oj hl hj _ _
    cases hl with
    | done hr _ => rw [hr] at hj; cases hj
  | succ n ih =>
    intro s listed a j oj hl hj hoj hsj
    cases hl with
    | done hr _ => rw [hr] at hj; cases hj
    | ord i o hi hr hf hsp hy h =>
      by_cases hji : j = i
      · subst hji
        rw [hi] at hoj
        injection hoj with hoj
        subst hoj
        exact ⟨hy, n, rfl, h⟩
      · obtain ⟨h1, m, rfl, h2⟩ := ih _ _ _ j oj h (ready_mono hj hji) hoj hsj
        obtain ⟨a1, a2, a3⟩ := Oper.apart_spec (hf j oj hoj hji (mem_ready.1 hj).1 (waits_not hr hj hoj))
        refine ⟨h1.unput (fun cs b => hsel j oj cs b hoj) a1, m + 1, rfl, Lin.ord i o hi (ready_mono hr (Ne.symm hji)) hf.set hsp (hy.put (fun cs b => hsel i o cs b hi) a3) ?_⟩
        rw [← Act.put_comm a _ _ a2, Array.setIfInBounds_comm _ _ hji]
        exact h2
    | spec i o N hi hr hf hsp hw hN hy h =>
      have hji : j ≠ i := fun e => by rw [e, hsp] at hsj; cases hsj
      obtain ⟨a1, a2, a3⟩ := Oper.apart_spec (hf j oj hoj hji (mem_ready.1 hj).1 (waits_not hr hj hoj))
      obtain ⟨u0, s0, hN0⟩ := hN
      obtain ⟨h1, m, rfl, _⟩ := ih _ _ _ j oj (h u0 s0 hN0) (ready_mono hj hji) hoj hsj
      refine ⟨h1.unput (fun cs b => hsel j oj cs b hoj) a1, m + 1, rfl, Lin.spec i o N hi (ready_mono hr (Ne.symm hji)) hf.set hsp (hw.imp fun _ hW => hW.set hr hj) ⟨u0, s0, hN0⟩ (hy.put (fun cs b => hsel i o cs b hi) a3) ?_⟩
      intro u s' hus
      obtain ⟨_, m', hm', h2⟩ := ih _ _ _ j oj (h u s' hus) (ready_mono hj hji) hoj hsj
      obtain rfl : m = m' := by omega
      rw [← Act.put_comm a _ _ a2, Array.setIfInBounds_comm _ _ hji]
      exact h2

theorem Lin.turns : ∀ (n : Nat) (s : σ) (listed : Array Bool) (a : Act) (j : Nat) (oj : Oper), Lin P md ops Q S sp vals n s listed a → j ∈ Region.ready md ops listed → ops[j]? = some oj → sp j = true →
    ∃ N, SpecAt P ops S s oj a N ∧ ∃ m, n = m + 1 ∧ ∀ u s', N u s' → Lin P md ops Q S sp vals m s' (listed.setIfInBounds j true) (a.put oj.dst u) := by
  intro n
  induction n with
  | zero =>
    intro s listed a j oj hl hj _ _
    cases hl with
    | done hr _ => rw [hr] at hj; cases hj
  | succ n ih =>
    intro s listed a j oj hl hj hoj hsj
    cases hl with
    | done hr _ => rw [hr] at hj; cases hj
    | ord i o hi hr hf hsp hy h =>
      have hji : j ≠ i := fun e => by rw [e, hsp] at hsj; cases hsj
      obtain ⟨N, h1, m, rfl, h2⟩ := ih _ _ _ j oj h (ready_mono hj hji) hoj hsj
      obtain ⟨a1, a2, a3⟩ := Oper.apart_spec (hf j oj hoj hji (mem_ready.1 hj).1 (waits_not hr hj hoj))
      refine ⟨N, h1.unput (fun cs b => hsel j oj cs b hoj) a1, m + 1, rfl, fun u s' hus => Lin.ord i o hi (ready_mono hr (Ne.symm hji)) hf.set hsp (hy.put (fun cs b => hsel i o cs b hi) a3) ?_⟩
      rw [← Act.put_comm a _ _ a2, Array.setIfInBounds_comm _ _ hji]
      exact h2 u s' hus
    | spec i o N hi hr hf hsp hw hN hy h =>
      by_cases hji : j = i
      · subst hji
        rw [hi] at hoj
        injection hoj with hoj
        subst hoj
        exact ⟨N, hy, n, rfl, h⟩
      · obtain ⟨D, hW⟩ := hw
        have h1 := hW.1 j oj hoj hsj hji (mem_ready.1 hj).1
        rw [hW.not_ready hr hj] at h1
        cases h1

theorem Lin.any : ∀ (n : Nat) (s : σ) (listed : Array Bool) (a : Act) (w : World), Lin P md ops Q S sp vals n s listed a → S s w → wpAny P md ops Q n listed a w := by
  intro n
  induction n with
  | zero =>
    intro s listed a w hl hS
    cases hl with
    | done hr hQ => exact ⟨hr, hQ w hS⟩
  | succ n ih =>
    intro s listed a w hl hS
    refine ⟨fun h => ?_, fun j hj => ?_⟩
    · cases hl with
      | done hr hQ => exact hQ w hS
      | ord i o hi hr => rw [h] at hr; cases hr
      | spec i o N hi hr => rw [h] at hr; cases hr
    · obtain ⟨_, oj, hoj, _⟩ := mem_ready.1 hj
      unfold wpOp
      simp only [hoj]
      cases hsj : sp j with
      | false =>
        obtain ⟨h1, m, hm, h2⟩ := Lin.first hsel _ _ _ _ j oj hl hj hoj hsj
        obtain rfl : n = m := by omega
        rcases h1 with ⟨hw, hg⟩ | ⟨hw, hv⟩
        · rw [if_pos hw]
          refine Or.inl ((hg s w hS).wp fun u w' ⟨hu, hS'⟩ => ?_)
          subst hu
          exact ih _ _ _ _ h2 hS'
        · rw [if_neg (by rw [hw]; exact Bool.false_ne_true)]
          rw [hv] at h2
          exact ih _ _ _ _ h2 hS
      | true =>
        obtain ⟨N, ⟨hw, hg⟩, m, hm, h2⟩ := Lin.turns hsel _ _ _ _ j oj hl hj hoj hsj
        obtain rfl : n = m := by omega
        rw [if_pos hw]
        exact Or.inl ((hg w hS).wp fun u w' ⟨s', hu, hS'⟩ => ih _ _ _ _ (h2 u s' hu) hS')
end

/-! ### the moves of a walk -/
section
variable {P : Program} {ops : Array Oper} {Q : Exit → Act → World → Prop} {σ : Type} {S : σ → World → Prop} {sp : Nat → Bool} {vals : Nat → Value}
/-- the beginning -/
theorem wp_region_lin {id : Nat} {a : Act} {w : World} (S : σ → World → Prop) (sp : Nat → Bool) (vals : Nat → Value) (s : σ) (hm : P.follows .mixedOrders = true) (hs : Region.noSelect ops = true) (hS : S s w.drew)
    (h : Lin P .any ops Q S sp vals ops.size s (Array.replicate ops.size false) a) : (Code.region id ops true).wp P Q a w :=
  wp_region_any hm (Lin.any (Region.noSelect_spec hs) _ _ _ _ _ h hS)
/-- do all others that turn the kind wait for this one? -/
def waitB (ops : Array Oper) (sp : Nat → Bool) (listed : Array Bool) (i : Nat) : Bool :=
  (List.range ops.size).all fun k => k == i || !sp k || listed.getD k true || match ops[k]? with
    | some ok => ok.after.any fun e => Region.binds .any e && e.on == i
    | none => true
theorem waitB_spec {listed : Array Bool} {i : Nat} (h : waitB ops sp listed i = true) (k : Nat) (ok : Oper) (hk : ops[k]? = some ok) (hs : sp k = true) (hne : k ≠ i) (hun : listed.getD k true = false) : ∃ e ∈ ok.after, Region.binds .any e = true ∧ e.on = i := by
  simp only [waitB, List.all_eq_true, List.mem_range] at h
  have h1 := h k (Array.getElem?_eq_some_iff.1 hk).1
  simp only [hk, Bool.or_eq_true, beq_iff_eq, hne, false_or, hun, hs, Bool.not_true, Bool.false_eq_true] at h1
  obtain ⟨e, he, hb⟩ := Array.any_eq_true'.1 h1
  simp only [Bool.and_eq_true, beq_iff_eq] at hb
  exact ⟨e, he, hb.1, hb.2⟩
theorem waits_direct {listed : Array Bool} {i : Nat} (h : waitB ops sp listed i = true) : WaitsFor .any ops sp listed i (fun k => decide (k < ops.size) && sp k && !(k == i) && !listed.getD k true) := by
  refine ⟨fun k ok hk hs hne hun => ?_, fun u hu => ?_⟩
  · have := (Array.getElem?_eq_some_iff.1 hk).1
    simp [this, hs, hun, hne]
  · simp only [Bool.and_eq_true, decide_eq_true_eq, Bool.not_eq_true', beq_eq_false_iff_ne] at hu
    obtain ⟨⟨⟨h1, h2⟩, h3⟩, h4⟩ := hu
    obtain ⟨e, he, hb, hon⟩ := waitB_spec h u _ (Array.getElem?_eq_getElem h1) h2 h3 h4
    exact ⟨h3, h4, _, Array.getElem?_eq_getElem h1, e, he, hb, Or.inl hon⟩
theorem lin_step {n : Nat} {s : σ} {listed : Array Bool} {a : Act} {i : Nat} {o : Oper} {v : Value} {d : Option Tmp} (hi : ops[i]? = some o) (hd : o.dst = d) (hr : (Region.ready .any ops listed).contains i = true) (hf : Region.free .any ops listed i = true) (hsp : sp i = false) (hv : vals i = v)
    (hy : OrdAt P ops S o v a) (h : Lin P .any ops Q S sp vals n s (listed.setIfInBounds i true) (a.put d v)) : Lin P .any ops Q S sp vals (n + 1) s listed a :=
  Lin.ord i o hi (by simpa using hr) (Region.free_spec hi hf) hsp (hv ▸ hy) (by rw [hd, hv]; exact h)
theorem lin_turn {n : Nat} {s : σ} {listed : Array Bool} {a : Act} {i : Nat} {o : Oper} {d : Option Tmp} (N : Value → σ → Prop) (hi : ops[i]? = some o) (hd : o.dst = d) (hr : (Region.ready .any ops listed).contains i = true) (hf : Region.free .any ops listed i = true) (hsp : sp i = true)
    (hw : waitB ops sp listed i = true) (hN : ∃ u s', N u s') (hwa : Region.wanted o (yielded ops a.tmps) = true) (hy : ∀ w, S s w → Gives P (execOp a.eval o) w fun u w' => ∃ s', N u s' ∧ S s' w')
    (h : ∀ u s', N u s' → Lin P .any ops Q S sp vals n s' (listed.setIfInBounds i true) (a.put d u)) : Lin P .any ops Q S sp vals (n + 1) s listed a :=
  Lin.spec i o N hi (by simpa using hr) (Region.free_spec hi hf) hsp ⟨_, waits_direct hw⟩ hN ⟨hwa, hy⟩ (by rw [hd]; exact h)
/-- the same, where D is told -/
def waitD (ops : Array Oper) (sp : Nat → Bool) (listed : Array Bool) (i : Nat) (D : List Nat) : Bool :=
  ((List.range ops.size).all fun k => k == i || !sp k || listed.getD k true || D.contains k) &&
  D.all fun u => !(u == i) && !listed.getD u true && match ops[u]? with
    | some ou => ou.after.any fun e => Region.binds .any e && (e.on == i || D.contains e.on)
    | none => false
theorem waitD_spec {listed : Array Bool} {i : Nat} {D : List Nat} (h : waitD ops sp listed i D = true) : WaitsFor .any ops sp listed i (fun u => D.contains u) := by
  simp only [waitD, Bool.and_eq_true] at h
  obtain ⟨h1, h2⟩ := h
  simp only [List.all_eq_true, List.mem_range] at h1 h2
  refine ⟨fun k ok hk hs hne hun => ?_, fun u hu => ?_⟩
  · have h3 := h1 k (Array.getElem?_eq_some_iff.1 hk).1
    simp only [Bool.or_eq_true, beq_iff_eq, hne, false_or, hun, hs, Bool.not_true, Bool.false_eq_true] at h3
    exact h3
  · have h3 := h2 u (by simpa using hu)
    simp only [Bool.and_eq_true, Bool.not_eq_true', beq_eq_false_iff_ne] at h3
    obtain ⟨⟨h4, h5⟩, h6⟩ := h3
    cases ho : ops[u]? with
    | none => rw [ho] at h6; cases h6
    | some ou =>
      rw [ho] at h6
      obtain ⟨e, he, hb⟩ := Array.any_eq_true'.1 h6
      simp only [Bool.and_eq_true, Bool.or_eq_true, beq_iff_eq] at hb
      exact ⟨h4, h5, ou, rfl, e, he, hb.1, hb.2⟩
theorem lin_turnD {n : Nat} {s : σ} {listed : Array Bool} {a : Act} {i : Nat} {o : Oper} {d : Option Tmp} (D : List Nat) (N : Value → σ → Prop) (hi : ops[i]? = some o) (hd : o.dst = d) (hr : (Region.ready .any ops listed).contains i = true) (hf : Region.free .any ops listed i = true) (hsp : sp i = true)
    (hw : waitD ops sp listed i D = true) (hN : ∃ u s', N u s') (hwa : Region.wanted o (yielded ops a.tmps) = true) (hy : ∀ w, S s w → Gives P (execOp a.eval o) w fun u w' => ∃ s', N u s' ∧ S s' w')
    (h : ∀ u s', N u s' → Lin P .any ops Q S sp vals n s' (listed.setIfInBounds i true) (a.put d u)) : Lin P .any ops Q S sp vals (n + 1) s listed a :=
  Lin.spec i o N hi (by simpa using hr) (Region.free_spec hi hf) hsp ⟨_, waitD_spec hw⟩ hN ⟨hwa, hy⟩ (by rw [hd]; exact h)
theorem lin_done {n : Nat} {s : σ} {listed : Array Bool} {a : Act} (hr : Region.ready .any ops listed = []) (hQ : ∀ w, S s w → Q .normal a w) : Lin P .any ops Q S sp vals n s listed a := Lin.done hr hQ
/-- an operation that looks at no memory, or at what every world of these kinds holds -/
theorem ord_value {o : Oper} {v : Value} {a : Act} (hw : Region.wanted o (yielded ops a.tmps) = true) (h : ∀ s w, S s w → (execOp a.eval o).run P w = .ok (.value v) w) : OrdAt P ops S o v a :=
  Or.inl ⟨hw, fun s w hS => gives_value (h s w hS) ⟨rfl, hS⟩⟩
theorem ord_skip {o : Oper} {a : Act} (hw : Region.wanted o (yielded ops a.tmps) = false) : OrdAt P ops S o undef a := Or.inr ⟨hw, rfl⟩
theorem ord_call {o : Oper} {v : Value} {a : Act} {f : FuncId} {args : Array Value} (hw : Region.wanted o (yielded ops a.tmps) = true) (hop : ∀ w, (execOp a.eval o).run P w = .ok (.enter f args) w)
    (h : ∀ s w, S s w → Calls P f args w fun e w' => e = .returned v ∧ S s w') : OrdAt P ops S o v a :=
  Or.inl ⟨hw, fun s w hS => gives_call (hop w) ((h s w hS).mono fun _ _ ⟨he, hS'⟩ => ⟨v, he, rfl, hS'⟩)⟩
end
end Go.Proofs.Ythngbakbiocadaa
