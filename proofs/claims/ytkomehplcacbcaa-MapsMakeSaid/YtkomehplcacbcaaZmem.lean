/-
  Entries in memory; a map in memory; what a call may change.
-/
import Derived.Test.YtkomehplcacbcaaAbase
import Derived.Test.YtkomehplcacbcaaZidx
namespace Go.Proofs.Ytkomehplcacbcaa
open Go.ChangeShapes Go.WideShapes Go.ChangeAt Go.RowKit Go.Maps

def enL (x : Z.En) : List Value := [.int .i64 x.key, .int .i64 x.a, .int .i64 x.b, .int .i64 x.c, .int .i64 x.d]
theorem enL_length (x : Z.En) : (enL x).length = 5 := rfl
theorem enL_one (x : Z.En) : ∀ v ∈ enL x, v.oneCell' = true := by
  intro v hv
  simp only [enL, List.mem_cons, List.not_mem_nil, or_false] at hv
  rcases hv with rfl | rfl | rfl | rfl | rfl <;> rfl
def enV (x : Z.En) : Value := .agg (enL x).toArray
def wordsL (x : Z.En) : List Value := [.int .i64 x.a, .int .i64 x.b, .int .i64 x.c, .int .i64 x.d]
theorem wordsL_length (x : Z.En) : (wordsL x).length = 4 := rfl
theorem wordsL_one (x : Z.En) : ∀ v ∈ wordsL x, v.oneCell' = true := by
  intro v hv
  simp only [wordsL, List.mem_cons, List.not_mem_nil, or_false] at hv
  rcases hv with rfl | rfl | rfl | rfl <;> rfl
theorem enT : RowT 62 5 := ⟨⟨_, Try.underlying62, rfl⟩, by kernel_rfl⟩
theorem renT : RowT 67 5 := ⟨⟨_, Try.underlying67, rfl⟩, by kernel_rfl⟩
theorem valT : RowT 39 4 := ⟨⟨_, Try.underlying39, rfl⟩, by kernel_rfl⟩
theorem rvalT : RowT 38 4 := ⟨⟨_, Try.underlying38, rfl⟩, by kernel_rfl⟩
theorem mapT : RowT 64 3 := ⟨⟨_, Try.underlying64, rfl⟩, by kernel_rfl⟩
theorem rmapT : RowT 43 3 := ⟨⟨_, Try.underlying43, rfl⟩, by kernel_rfl⟩
theorem info_en : (Try.prog.info? 62).map (fun i => (i.zero, i.size, i.bytes)) = some (some (.agg #[.int .i64 0, .int .i64 0, .int .i64 0, .int .i64 0, .int .i64 0]), 5, 40) := by kernel_rfl
theorem info_ren : (Try.prog.info? 67).map (fun i => (i.zero, i.size, i.bytes)) = some (some (.agg #[.int .i64 0, .int .i64 0, .int .i64 0, .int .i64 0, .int .i64 0]), 5, 40) := by kernel_rfl
def cellsE (xs : List Z.En) : List Value := xs.flatMap enL
theorem cellsE_length (xs : List Z.En) : (cellsE xs).length = xs.length * 5 := by
  induction xs with
  | nil => rfl
  | cons b t ih => unfold cellsE at ih ⊢; rw [List.flatMap_cons, List.length_append, ih, enL_length, List.length_cons]; omega
theorem cellsE_snoc (xs : List Z.En) (x : Z.En) : cellsE (xs ++ [x]) = cellsE xs ++ enL x := by unfold cellsE; simp
theorem cellsE_app (xs ys : List Z.En) : cellsE (xs ++ ys) = cellsE xs ++ cellsE ys := by unfold cellsE; simp
theorem cellsE_one (xs : List Z.En) : ∀ v ∈ cellsE xs, v.oneCell' = true := by
  intro v hv
  unfold cellsE at hv
  obtain ⟨x, _, hx⟩ := List.mem_flatMap.1 hv
  exact enL_one x v hx
theorem cellsE_at : ∀ (xs : List Z.En) (i : Nat) (x : Z.En) (j : Nat) (v : Value), xs[i]? = some x → (enL x)[j]? = some v → (cellsE xs)[i * 5 + j]? = some v
  | [], i, x, j, v, hx, _ => by simp at hx
  | y :: r, 0, x, j, v, hx, hv => by
    simp at hx
    subst hx
    have hj : j < 5 := (List.getElem?_eq_some_iff.1 hv).1
    unfold cellsE
    rw [List.flatMap_cons, Nat.zero_mul, Nat.zero_add, List.getElem?_append_left (by rw [enL_length]; exact hj)]
    exact hv
  | y :: r, i + 1, x, j, v, hx, hv => by
    have := cellsE_at r i x j v (by simpa using hx) hv
    unfold cellsE at this ⊢
    rw [List.flatMap_cons, List.getElem?_append_right (by rw [enL_length]; omega), enL_length, show (i + 1) * 5 + j - 5 = i * 5 + j by omega]
    exact this
theorem cellsE_take : ∀ (xs : List Z.En) (k : Nat), cellsE (xs.take k) = (cellsE xs).take (k * 5)
  | [], k => by simp [cellsE]
  | y :: r, 0 => by simp [cellsE]
  | y :: r, k + 1 => by
    have := cellsE_take r k
    unfold cellsE at this ⊢
    rw [List.take_succ_cons, List.flatMap_cons, List.flatMap_cons, this, List.take_append, enL_length, List.take_of_length_le (l := enL y) (by rw [enL_length]; omega), show (k + 1) * 5 - 5 = k * 5 by omega]
theorem cellsE_drop : ∀ (xs : List Z.En) (k : Nat), cellsE (xs.drop k) = (cellsE xs).drop (k * 5)
  | [], k => by simp [cellsE]
  | y :: r, 0 => by simp [cellsE]
  | y :: r, k + 1 => by
    have := cellsE_drop r k
    unfold cellsE at this ⊢
    rw [List.drop_succ_cons, List.flatMap_cons, this, List.drop_append, enL_length, List.drop_of_length_le (l := enL y) (by rw [enL_length]; omega), show (k + 1) * 5 - 5 = k * 5 by omega, List.nil_append]

/-! ### what a call may change -/
/-- all that was there but these blocks is as it was -/
structure But (S : Nat → Prop) (w w' : World) : Prop where
  os : w'.os = w.os
  tape : w'.tape = w.tape
  output : w'.output = w.output
  size : w.heap.size ≤ w'.heap.size
  block : ∀ k, k < w.heap.size → ¬ S k → w'.heap[k]? = w.heap[k]?
theorem But.refl (S : Nat → Prop) (w : World) : But S w w := ⟨rfl, rfl, rfl, Nat.le_refl _, fun _ _ _ => rfl⟩
theorem But.trans {S T : Nat → Prop} {a b c : World} (h : But S a b) (k : But T b c) (hT : ∀ x, T x → S x ∨ a.heap.size ≤ x) : But S a c :=
  ⟨k.os.trans h.os, k.tape.trans h.tape, k.output.trans h.output, Nat.le_trans h.size k.size, fun i hi hS => by
    refine (k.block i (Nat.lt_of_lt_of_le hi h.size) (fun ht => ?_)).trans (h.block i hi hS)
    rcases hT i ht with h1 | h1
    · exact hS h1
    · omega⟩
theorem But.mono {S T : Nat → Prop} {a b : World} (h : But S a b) (hT : ∀ x, S x → T x ∨ a.heap.size ≤ x) : But T a b :=
  ⟨h.os, h.tape, h.output, h.size, fun k hk hS => h.block k hk (fun hs => by
    rcases hT k hs with h1 | h1
    · exact hS h1
    · omega)⟩
theorem But.of_below {S : Nat → Prop} {a b : World} (h : Below a.heap.size a b) : But S a b := ⟨h.os, h.tape, h.output, h.size, fun k hk _ => h.block k hk⟩
theorem But.below {S : Nat → Prop} {n : Nat} {a b : World} (h : But S a b) (hn : n ≤ a.heap.size) (hS : ∀ x, S x → n ≤ x) : Below n a b := ⟨h.os, h.tape, h.output, h.size, fun k hk => h.block k (by omega) (fun hs => by have := hS k hs; omega)⟩
theorem But.of_grown {a b : World} {r : Option Nat} (h : a.grownBy b r) : But (fun k => r = some k) a b := ⟨h.os, h.tape, h.output, h.size, fun k hk hS => h.block k hk (fun e => hS e.symm)⟩
theorem But.setCell (w : World) (b o : Nat) (v : Value) : But (fun k => k = b) w (w.setCell ⟨b, o, none⟩ v) := ⟨rfl, rfl, rfl, by simp [World.setCell], fun k _ hk => Below.heap_setCell _ _ _ _ hk⟩
theorem But.alloc (S : Nat → Prop) (w : World) (o : Obj) : But S w (w.alloc o) := But.of_below ((Below.refl _ _).alloc (Nat.le_refl _) o)
theorem But.drew (S : Nat → Prop) (w : World) : But S w w.drew := But.of_below (Below.refl _ _).drew
theorem But.setCells (b : Nat) : ∀ (vs : List Value) (o : Nat) (w : World), But (fun k => k = b) w (w.setCells b o vs)
  | [], _, w => But.refl _ w
  | v :: r, o, w => by
    rw [World.setCells]
    exact (But.setCell w b o v).trans (But.setCells b r (o + 1) _) (fun x hx => Or.inl hx)
theorem RowAt.of_block {w w' : World} {b : Nat} {vs : List Value} (h : RowAt w b vs) (hb : w'.heap[b]? = w.heap[b]?) : RowAt w' b vs where
  range := fun j v hv => (World.cell?_of_block (a := ⟨b, 0 + j, none⟩) hb).trans (h.range j v hv)
  free := fun j hj => by
    rw [World.cell?_of_block (a := ⟨b, 0 + j, none⟩) hb, World.frozen?_of_block (a := ⟨b, 0 + j, none⟩) hb]
    exact h.free j hj
theorem RowAt.but {S : Nat → Prop} {w w' : World} {b : Nat} {v : Value} {vs : List Value} (h : RowAt w b (v :: vs)) (hb : But S w w') (hS : ¬ S b) : RowAt w' b (v :: vs) := h.of_block (hb.block b h.lt hS)
theorem own_but {S : Nat → Prop} {w w' : World} {base : Nat} {e : TypeId} {size : Nat} {v : Value} {n : Nat} {xs : List Value} (h : w.ownsRow base e size v n xs) (hb : But S w w') (hS : ∀ g, v.ownBlock = some g → ¬ S g) : w'.ownsRow base e size v n xs := by
  refine ⟨h.1, ?_⟩
  rcases h.2 with h2 | ⟨g, cap, cur, h1, h2, h3, h4⟩
  · exact Or.inl h2
  · refine Or.inr ⟨g, cap, cur, h1, h2, (hb.block g (Array.getElem?_eq_some_iff.1 h3).1 (hS g ?_)).trans h3, h4⟩
    rw [h1]; rfl
/-- the cells of what is owned -/
theorem own_range {w : World} {base : Nat} {t : TypeId} {v : Value} {n : Nat} {xs : List Z.En} (h : w.ownsRow base t 5 v n (cellsE xs)) {i : Nat} {x : Z.En} (hx : xs[i]? = some x) : ∃ g c, v = .slice (some ⟨g, 0, none⟩) n c ∧ n ≤ c ∧ c ≤ maxLen ∧ base ≤ g ∧ g < w.heap.size ∧ w.rangeAt g (i * 5) (enL x) := by
  obtain ⟨h1, h2⟩ := h
  have hn : n = xs.length := by rw [cellsE_length] at h1; omega
  have hi := (List.getElem?_eq_some_iff.1 hx).1
  rcases h2 with ⟨e, e2⟩ | ⟨g, cap, cur, e, hb, hg, hnc, hcm, hsz, htk⟩
  · exfalso; omega
  · refine ⟨g, cap, e, hnc, hcm, hb, (Array.getElem?_eq_some_iff.1 hg).1, fun j v hv => ?_⟩
    have hf := cellsE_at xs i x j v hx hv
    rw [← htk] at hf
    have hlt : i * 5 + j < n * 5 := by
      have := (List.getElem?_eq_some_iff.1 hf).1
      rw [List.length_take] at this; omega
    rw [List.getElem?_take_of_lt hlt] at hf
    simp only [World.cell?, hg]
    simp only [Option.isSome_none, Bool.false_eq_true, if_false]
    rw [← Array.getElem?_toList]
    exact hf
theorem own_many {w : World} {base : Nat} {t : TypeId} {A : Option Addr} {n c : Nat} {xs : List Z.En} (h : w.ownsRow base t 5 (.slice A n c) n (cellsE xs)) : ManyAt w A 5 (xs.map enL) := ⟨fun h0 => by
  rw [List.length_map] at h0
  obtain ⟨x0, hx0⟩ : ∃ x, xs[0]? = some x := ⟨_, List.getElem?_eq_getElem h0⟩
  obtain ⟨g, c', e, _, _, _, hlt, _⟩ := own_range h hx0
  injection e with e _ _
  refine ⟨g, 0, e, hlt, fun i r hr => ?_⟩
  rw [List.getElem?_map] at hr
  obtain ⟨x, hx, rfl⟩ := Option.map_eq_some_iff.1 hr
  obtain ⟨g', c'', e', _, _, _, _, hrg⟩ := own_range h hx
  injection e' with e' _ _
  rw [e] at e'
  injection e' with e'
  injection e' with e'
  rw [Nat.zero_add, e']
  exact hrg⟩
/-- entries that lie in a slice -/
structure EnsAt (w : World) (A : Option Addr) (n : Nat) (xs : List Z.En) : Prop where
  len : xs.length = n
  rows : ManyAt w A 5 (xs.map enL)
theorem EnsAt.step {w w' : World} {A : Option Addr} {n : Nat} {xs : List Z.En} (h : EnsAt w A n xs) (hb : Below w.heap.size w w') : EnsAt w' A n xs := ⟨h.len, h.rows.step hb⟩
theorem EnsAt.get {w : World} {A : Option Addr} {n : Nat} {xs : List Z.En} (h : EnsAt w A n xs) (k : Nat) (hk : k < n) : ∃ b off x, A = some ⟨b, off, none⟩ ∧ b < w.heap.size ∧ xs[k]? = some x ∧ w.rangeAt b (off + k * 5) (enL x) := by
  obtain ⟨b, off, e, hb, hc⟩ := h.rows.cells (by rw [List.length_map, h.len]; omega)
  have hx : xs[k]? = some (xs[k]'(by rw [h.len]; exact hk)) := List.getElem?_eq_getElem _
  exact ⟨b, off, _, e, hb, hx, hc k _ (by rw [List.getElem?_map, hx]; rfl)⟩
/-- a map in memory: its head (kind, or Lru), its room, its entries -/
structure MpAt (et : TypeId) (hd : Value) (w : World) (base b : Nat) (sv : Value) (room : Nat) (l : List Z.En) : Prop where
  row : RowAt w b [hd, .int .i64 (room : Int), sv]
  own : w.ownsRow base et 5 sv l.length (cellsE l)
  ne : sv.ownBlock ≠ some b
  ge : base ≤ b
def Foot (b : Nat) (sv : Value) (k : Nat) : Prop := k = b ∨ sv.ownBlock = some k
theorem MpAt.foot {et : TypeId} {hd : Value} {w : World} {base b : Nat} {sv : Value} {room : Nat} {l : List Z.En} (h : MpAt et hd w base b sv room l) {k : Nat} (hk : Foot b sv k) : base ≤ k ∧ k < w.heap.size := by
  rcases hk with rfl | hk
  · exact ⟨h.ge, h.row.lt⟩
  · exact h.own.lt k hk
theorem MpAt.keep {et : TypeId} {hd : Value} {w w' : World} {base b : Nat} {sv : Value} {room : Nat} {l : List Z.En} {S : Nat → Prop} (h : MpAt et hd w base b sv room l) (hb : But S w w') (hS : ∀ k, S k → ¬ Foot b sv k) : MpAt et hd w' base b sv room l where
  row := h.row.but hb (fun hs => hS b hs (Or.inl rfl))
  own := own_but h.own hb (fun g hg hs => hS g hs (Or.inr hg))
  ne := h.ne
  ge := h.ge
theorem MpAt.step {et : TypeId} {hd : Value} {w w' : World} {base b : Nat} {sv : Value} {room : Nat} {l : List Z.En} (h : MpAt et hd w base b sv room l) (hb : Below w.heap.size w w') : MpAt et hd w' base b sv room l := h.keep (S := fun _ => False) (But.of_below hb) (fun _ hf => hf.elim)
/-- what a call makes of a map -/
structure MpTo (et : TypeId) (hd : Value) (w : World) (base b : Nat) (sv : Value) (room : Nat) (l : List Z.En) (w' : World) (sv' : Value) : Prop where
  at_ : MpAt et hd w' base b sv' room l
  but : But (Foot b sv) w w'
  new : ∀ k, sv'.ownBlock = some k → sv.ownBlock = some k ∨ w.heap.size ≤ k
theorem MpTo.self {et : TypeId} {hd : Value} {w w' : World} {base b : Nat} {sv : Value} {room : Nat} {l : List Z.En} (h : MpAt et hd w base b sv room l) (hb : Below w.heap.size w w') : MpTo et hd w base b sv room l w' sv := ⟨h.step hb, But.of_below hb, fun _ h => Or.inl h⟩
theorem MpTo.trans {et : TypeId} {hd : Value} {w w' w'' : World} {base b : Nat} {sv sv' sv'' : Value} {room : Nat} {l l' : List Z.En} (h : MpTo et hd w base b sv room l w' sv') (k : MpTo et hd w' base b sv' room l' w'' sv'') : MpTo et hd w base b sv room l' w'' sv'' := ⟨k.at_, h.but.trans k.but (fun x hx => by
    rcases hx with rfl | hx
    · exact Or.inl (Or.inl rfl)
    · rcases h.new x hx with h1 | h1
      · exact Or.inl (Or.inr h1)
      · exact Or.inr h1), fun x hx => by
    rcases k.new x hx with h1 | h1
    · exact h.new x h1
    · exact Or.inr (Nat.le_trans h.but.size h1)⟩
theorem MpTo.call {et : TypeId} {hd : Value} {w w' w'' : World} {base b : Nat} {sv sv' : Value} {room : Nat} {l : List Z.En} (h : MpTo et hd w base b sv room l w' sv') (hb : Below w'.heap.size w' w'') : MpTo et hd w base b sv room l w'' sv' := h.trans (MpTo.self h.at_ hb)
/-- behind an append, and the store of what it gave -/
theorem MpTo.stored {et : TypeId} {hd : Value} {w w1 : World} {base b : Nat} {sv sv' : Value} {room : Nat} {l l' : List Z.En} (h : MpAt et hd w base b sv room l) (hb : But (fun k => sv.ownBlock = some k) w w1) (hown : w1.ownsRow base et 5 sv' l'.length (cellsE l')) (hnew : ∀ k, sv'.ownBlock = some k → sv.ownBlock = some k ∨ w.heap.size ≤ k) : MpTo et hd w base b sv room l' (w1.setCell ⟨b, 2, none⟩ sv') sv' := by
  have hr : RowAt w1 b [hd, .int .i64 (room : Int), sv] := h.row.but hb (fun e => h.ne e)
  have hne : sv'.ownBlock ≠ some b := fun e => by
    rcases hnew b e with h1 | h1
    · exact h.ne h1
    · have := h.row.lt
      omega
  have hc := But.setCell w1 b 2 sv'
  refine ⟨⟨?_, own_but hown hc (fun g hg e => hne (e ▸ hg)), hne, h.ge⟩, (hb.mono (fun x hx => Or.inl (Or.inr hx))).trans hc (fun x hx => Or.inl (Or.inl hx)), hnew⟩
  refine ⟨fun j v hv => ?_, fun j hj => ?_⟩
  · rw [Nat.zero_add]
    have hth := hr.free
    match j, hv with
    | 0, hv => exact (World.cell?_setCell_other w1 _ _ _ (by intro e; injection e with _ e; cases e)).trans (hr.cell 0 v hv)
    | 1, hv => exact (World.cell?_setCell_other w1 _ _ _ (by intro e; injection e with _ e; cases e)).trans (hr.cell 1 v hv)
    | 2, hv =>
      have : v = sv' := by simp at hv; exact hv.symm
      subst this
      exact World.cell?_setCell_same w1 _ _ (hr.cell 2 _ rfl)
    | j + 3, hv => simp at hv
  · have := World.there_setCells (w := w1) hr.free b 2 [sv']
    exact this j hj
end Go.Proofs.Ytkomehplcacbcaa
