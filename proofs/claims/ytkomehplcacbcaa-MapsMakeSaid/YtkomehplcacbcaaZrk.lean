/-
  The document's Put: the kinds of worlds of its regions, in which slices of the call's own grow beside an entry's own row.
-/
import Derived.Test.YtkomehplcacbcaaZuse
namespace Go.Proofs.Ytkomehplcacbcaa
open Go.RowKit Go.Maps

theorem own_le {w : World} {base base' : Nat} {t : TypeId} {size : Nat} {v : Value} {n : Nat} {xs : List Value} (h : w.ownsRow base t size v n xs) (hb : base' ≤ base) : w.ownsRow base' t size v n xs := by
  refine ⟨h.1, ?_⟩
  rcases h.2 with h2 | ⟨g, cap, cur, h1, h2, h3⟩
  · exact Or.inl h2
  · exact Or.inr ⟨g, cap, cur, h1, Nat.le_trans hb h2, h3⟩
inductive RK
  | p (x : Option (Value × List Z.En)) (y : Option Nat)
  | d (v : Value)
def RkS (hd : Value) (wx : World) (base b : Nat) (sv : Value) (room : Nat) (l l' : List Z.En) (e : Z.En) : RK → World → Prop
  | .p x y, W => Below wx.heap.size wx W ∧ (∀ v xs, x = some (v, xs) → W.ownsRow wx.heap.size 67 5 v xs.length (cellsE xs)) ∧
    (∀ g, y = some g → wx.heap.size ≤ g ∧ g < W.heap.size ∧ (∀ j u, (enL e)[j]? = some u → W.cell? ((⟨g, 0, none⟩ : Addr).add j) = some u) ∧ ∀ v xs, x = some (v, xs) → v.ownBlock ≠ some g)
  | .d v, W => MpTo 67 hd wx base b sv room l' W v
def rkMay (L : List Nat) : RK → Nat → Bool
  | .d _, k => !(L.contains k)
  | _, _ => true
theorem rkMay_no {ops : Array Oper} {L : List Nat} {i : Nat} {s : RK} {N : Value → RK → Prop} (h : ∀ u s', N u s' → ∃ x y, s' = .p x y) : Lost .any ops (rkMay L) s i N := lost_no fun u s' hu k => by
  obtain ⟨x, y, rfl⟩ := h u s' hu
  rfl
theorem rkMay_last {ops : Array Oper} {L : List Nat} {i : Nat} {s : RK} {v : Value} (h : L.all (predB ops i) = true) : Lost .any ops (rkMay L) s i (fun _ s' => s' = .d v) := lost_those L h fun u s' hu k hk => by
  subst hu
  simpa [rkMay] using hk
section
variable {hd : Value} {wx : World} {base b : Nat} {sv : Value} {room : Nat} {l l' : List Z.En} {e : Z.En}
abbrev RE : TypeId := 67
abbrev RS : TypeId := 41
theorem RkS.but {s : RK} {W : World} (h : RkS hd wx base b sv room l l' e s W) : But (Foot b sv) wx W := by
  cases s with
  | p x y => exact But.of_below h.1
  | d v => exact MpTo.but (show MpTo RE hd wx base b sv room l' W v from h)
theorem RkS.row {s : RK} {W : World} (h0 : MpAt RE hd wx base b sv room l) (h : RkS hd wx base b sv room l l' e s W) {L : List Nat} {k : Nat} (hk : k ∈ L) (hm : rkMay L s k = true) : RowAt W b [hd, .int .i64 (room : Int), sv] := by
  cases s with
  | p x y => exact h0.row.step h.1
  | d v => simp [rkMay, hk] at hm
theorem RkS.other {s : RK} {W : World} {B : Nat} {v : Value} {vs : List Value} (hr : RowAt wx B (v :: vs)) (hf : ¬ Foot b sv B) (h : RkS hd wx base b sv room l l' e s W) : RowAt W B (v :: vs) := hr.but h.but hf
theorem rk_load {ρ : Operand → Value} {op : Oper} {W : World} {L : List Nat} {k : Nat} {s : RK} (h0 : MpAt RE hd wx base b sv room l) (hk : k ∈ L) (hm : rkMay L s k = true) (h : RkS hd wx base b sv room l l' e s W) (y : Operand)
    (ho : op.op = .load 41 y) (hy : ρ y = .pointer (some ⟨b, 2, none⟩)) : (execOp ρ op).run Try.prog W = .ok (.value sv) W := by
  have hc := (h.row h0 hk hm).cell 2 _ rfl
  unfold execOp
  simp only [ho, hy]
  go_simp
/-- a slice without entries is made -/
theorem rk_empty {a : Act} {op : Oper} {W : World} {y : Option Nat} (h : RkS hd wx base b sv room l l' e (.p none y) W) (hop : (execOp a.eval op).run Try.prog W = .ok (.value (.slice (some ⟨W.heap.size, 0, none⟩) 0 0)) (W.alloc (.cells #[] 67))) :
    Gives Try.prog (execOp a.eval op) W fun u w' => ∃ s', s' = RK.p (some (u, [])) y ∧ RkS hd wx base b sv room l l' e s' w' := by
  obtain ⟨h1, _, h3⟩ := h
  have hb : Below W.heap.size W (W.alloc (.cells #[] 67)) := (Below.refl _ _).alloc (Nat.le_refl _) _
  refine gives_to hop ⟨_, rfl, h1.trans (hb.mono h1.size), fun v xs hx => ?_, fun g hg => ?_⟩
  · injection hx with hx
    injection hx with e1 e2
    subst e1 e2
    exact empty_own W _ _ h1.size
  · obtain ⟨g1, g2, g3, _⟩ := h3 g hg
    refine ⟨g1, Nat.lt_of_lt_of_le g2 hb.size, fun j u hu => ?_, fun v xs hx => ?_⟩
    · have := g3 j u hu
      rw [Addr.add_mid] at this ⊢
      exact (hb.cell (p := ⟨g, 0 + j, none⟩) g2).trans this
    · injection hx with hx
      injection hx with e1 e2
      subst e1
      simp only [Value.ownBlock, ne_eq, Option.some.injEq]
      omega
/-- an entry's own row is made -/
theorem rk_one {a : Act} {op : Oper} {W : World} {x : Option (Value × List Z.En)} (h : RkS hd wx base b sv room l l' e (.p x none) W) (y : Operand) (ho : op.op = .buildSlice 41 1 #[(0, y)]) (hy : a.eval y = .agg (enL e).toArray) :
    Gives Try.prog (execOp a.eval op) W fun u w' => ∃ s', (∃ g, u = .slice (some ⟨g, 0, none⟩) 1 1 ∧ s' = RK.p x (some g)) ∧ RkS hd wx base b sv room l l' e s' w' := by
  obtain ⟨h1, h2, _⟩ := h
  have hb : Below W.heap.size W (W.alloc (.cells (enL e).toArray 67)) := (Below.refl _ _).alloc (Nat.le_refl _) _
  refine gives_to (exec_oneE (Or.inr ⟨rfl, rfl⟩) y ho hy) ⟨_, ⟨_, rfl, rfl⟩, h1.trans (hb.mono h1.size), fun v xs hx => owns_below (h2 v xs hx) hb, fun g hg => ?_⟩
  injection hg with hg
  subst hg
  refine ⟨h1.size, by simp, cell_new W (enL e) _, fun v xs hx => ?_⟩
  intro hv
  have := ((h2 v xs hx).lt _ hv).2
  omega
/-- what lies in a slice is appended -/
theorem rk_append {a : Act} {op : Oper} {W : World} {v : Value} {xs ys : List Z.En} {yy : Option Nat} (h : RkS hd wx base b sv room l l' e (.p (some (v, xs)) yy) W) (p q : Operand)
    (ho : op.op = .call { callee := .builtin .append, args := #[p, q], argTypes := #[41, 41] }) (hp : a.eval p = v) (ad : Addr) (m c : Nat) (hq : a.eval q = .slice (some ad) m c) (hm : ys.length = m)
    (hc : ∀ j u, (cellsE ys)[j]? = some u → W.cell? (ad.add j) = some u) (hn : xs.length + m ≤ 10000) :
    Gives Try.prog (execOp a.eval op) W fun u w' => ∃ s', s' = RK.p (some (u, xs ++ ys)) yy ∧ RkS hd wx base b sv room l l' e s' w' := by
  obtain ⟨h1, h2, h3⟩ := h
  have hown := h2 v xs rfl
  obtain ⟨i0, hi0, hz0, hs0, hb0⟩ := info_parts info_ren
  refine gives_append p q _ ho wx.heap.size 67 i0 _ 5 40 Try.underlying41 hi0 hz0 hs0 hb0 rfl (by omega) v xs.length (cellsE xs) hp hown ad m c (cellsE ys) hq (by rw [cellsE_length, hm]) hc (cellsE_one _) (by unfold maxLen; omega) (by omega) h1.size ?_
  intro v' w' hown' hg _ hloc
  refine ⟨_, rfl, h1.grown hg h1.size (fun k hk => (hown.lt k hk).1), fun u zs hx => ?_, fun g hgy => ?_⟩
  · injection hx with hx
    injection hx with e1 e2
    subst e1 e2
    rw [cellsE_app, List.length_append, hm]
    exact hown'
  · obtain ⟨g1, g2, g3, g4⟩ := h3 g hgy
    have hne := g4 v xs rfl
    refine ⟨g1, Nat.lt_of_lt_of_le g2 hg.size, fun j u hu => ?_, fun u zs hx => ?_⟩
    · have := g3 j u hu
      rw [Addr.add_mid] at this ⊢
      exact (World.cell?_of_block (a := ⟨g, 0 + j, none⟩) (hg.block g g2 (fun e => hne e.symm))).trans this
    · injection hx with hx
      injection hx with e1 e2
      subst e1
      rcases hloc with e | e
      · rw [e]; exact hne
      · rw [e]
        intro q
        injection q with q
        omega
/-- nothing is appended -/
theorem rk_nothing {a : Act} {op : Oper} {W : World} {v : Value} {xs : List Z.En} {yy : Option Nat} (h : RkS hd wx base b sv room l l' e (.p (some (v, xs)) yy) W) (p q : Operand)
    (ho : op.op = .call { callee := .builtin .append, args := #[p, q], argTypes := #[41, 41] }) (hp : a.eval p = v) (hq : a.eval q = .slice none 0 0) :
    Gives Try.prog (execOp a.eval op) W fun u w' => ∃ s', s' = RK.p (some (u, xs)) yy ∧ RkS hd wx base b sv room l l' e s' w' := by
  have h0 := h
  obtain ⟨h1, h2, h3⟩ := h
  obtain ⟨i0, hi0, hz0, hs0, hb0⟩ := info_parts info_ren
  have hr := run_append_owned_none (P := Try.prog) W wx.heap.size 41 op.type 67 i0 5 Try.underlying41 hi0 v xs.length (cellsE xs) (h2 v xs rfl)
  refine gives_to (v := v) (w' := W) ?_ ⟨_, rfl, h0⟩
  unfold execOp
  simp only [ho, resolve, invoke, builtin, Sem.run_bind, Sem.run_pure, Result.andThen_ok, List.map_toArray, List.map_cons, List.map_nil, hp, hq, hr]
/-- what was made is stored -/
theorem rk_store {a : Act} {op : Oper} {W : World} {v : Value} {xs : List Z.En} {yy : Option Nat} (h0 : MpAt RE hd wx base b sv room l) (hbw : base ≤ wx.heap.size) (h : RkS hd wx base b sv room l l' e (.p (some (v, xs)) yy) W) (hl : xs = l') (p q : Operand)
    (ho : op.op = .store 41 p q) (hp : a.eval p = .pointer (some ⟨b, 2, none⟩)) (hq : a.eval q = v) :
    Gives Try.prog (execOp a.eval op) W fun _ w' => ∃ s', s' = RK.d v ∧ RkS hd wx base b sv room l l' e s' w' := by
  subst hl
  obtain ⟨h1, h2, h3⟩ := h
  have hown := h2 v xs rfl
  obtain ⟨A, c, rfl⟩ := owns_slice hown
  have hr : RowAt W b [hd, .int .i64 (room : Int), sv] := h0.row.step h1
  refine gives_skip (run_store_slice (Or.inr rfl) p q ho hp hq (hr.cell 2 _ rfl) (hr.frozen 2 (show 2 < 3 by decide))) ⟨.d _, rfl, ?_⟩
  exact MpTo.stored h0 (But.of_below h1) (own_le hown hbw) (fun k hk => Or.inr (hown.lt k hk).1)
end
/-- the cells of a piece of what is owned: ahead of a place, behind it -/
theorem cells_ahead {w : World} {base : Nat} {t : TypeId} {g n cap : Nat} {l : List Z.En} (h : w.ownsRow base t 5 (.slice (some ⟨g, 0, none⟩) n cap) n (cellsE l)) (i : Nat) (hi : i ≤ n) : ∀ j u, (cellsE (l.take i))[j]? = some u → w.cell? ((⟨g, 0, none⟩ : Addr).add j) = some u := fun j u hu => by
  rw [cellsE_take] at hu
  refine h.cells rfl j u ?_
  have hj := (List.getElem?_eq_some_iff.1 hu).1
  rw [List.length_take] at hj
  rw [List.getElem?_take_of_lt (by omega)] at hu
  exact hu
theorem cells_behind {w : World} {base : Nat} {t : TypeId} {g n cap : Nat} {l : List Z.En} (h : w.ownsRow base t 5 (.slice (some ⟨g, 0, none⟩) n cap) n (cellsE l)) (j : Nat) (hj : j ≤ n) : ∃ A : Addr, (if cap = j then (some ⟨g, 0, none⟩ : Option Addr) else some ⟨g, j * 5, none⟩) = some A ∧ A.block = g ∧ (∀ t u, (cellsE (l.drop j))[t]? = some u → w.cell? (A.add t) = some u) := by
  have hln : l.length = n := by have := h.1; rw [cellsE_length] at this; omega
  obtain ⟨hnc, _⟩ := own_cap h
  by_cases hc : cap = j
  · refine ⟨⟨g, 0, none⟩, by rw [if_pos hc], rfl, fun t u hu => ?_⟩
    have : (cellsE (l.drop j)).length = 0 := by rw [cellsE_length, List.length_drop]; omega
    rw [List.length_eq_zero_iff.1 this] at hu
    simp at hu
  · refine ⟨⟨g, j * 5, none⟩, by rw [if_neg hc], rfl, fun t u hu => ?_⟩
    rw [cellsE_drop, List.getElem?_drop] at hu
    have h2 := h.cells (g := g) rfl (j * 5 + t) u hu
    have e1 : (⟨g, j * 5, none⟩ : Addr).add t = (⟨g, 0, none⟩ : Addr).add (j * 5 + t) := by unfold Addr.add; split <;> split <;> simp_all <;> omega
    rw [e1]
    exact h2
theorem cells_step {w w' : World} {A : Addr} {xs : List Value} (h : ∀ t u, xs[t]? = some u → w.cell? (A.add t) = some u) (hb : Below w.heap.size w w') (hA : A.block < w.heap.size) : ∀ t u, xs[t]? = some u → w'.cell? (A.add t) = some u := fun t u hu => by
  have hbl : (A.add t).block = A.block := by unfold Addr.add; split <;> (try split) <;> rfl
  exact (hb.cell (p := A.add t) (by rw [hbl]; exact hA)).trans (h t u hu)
end Go.Proofs.Ytkomehplcacbcaa
