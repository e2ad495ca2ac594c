/-
  maps.Make.
-/
import Derived.Test.YtkomehplcacbcaaZms
namespace Go.Proofs.Ytkomehplcacbcaa
open Go.ChangeShapes Go.WideShapes Go.ChangeAt Go.RowKit Go.Maps

/-- specs that lie in a slice -/
def spL (x : Int × Int) : List Value := [.int .i64 x.1, .int .i64 x.2]
theorem spT : RowT 31 2 := ⟨⟨_, Try.underlying31, rfl⟩, by kernel_rfl⟩
theorem spL_one (x : Int × Int) : ∀ v ∈ spL x, v.oneCell' = true := by
  intro v hv
  simp only [spL, List.mem_cons, List.not_mem_nil, or_false] at hv
  rcases hv with rfl | rfl <;> rfl
structure SpecsAt (w : World) (A : Option Addr) (n : Nat) (xs : List (Int × Int)) : Prop where
  len : xs.length = n
  rows : ManyAt w A 2 (xs.map spL)
theorem SpecsAt.step {w w' : World} {A : Option Addr} {n : Nat} {xs : List (Int × Int)} (h : SpecsAt w A n xs) (hb : Below w.heap.size w w') : SpecsAt w' A n xs := ⟨h.len, h.rows.step hb⟩
theorem SpecsAt.get {w : World} {A : Option Addr} {n : Nat} {xs : List (Int × Int)} (h : SpecsAt w A n xs) (k : Nat) (hk : k < n) : ∃ b off x, A = some ⟨b, off, none⟩ ∧ b < w.heap.size ∧ xs[k]? = some x ∧ w.rangeAt b (off + k * 2) (spL x) := by
  obtain ⟨b, off, e, hb, hc⟩ := h.rows.cells (by rw [List.length_map, h.len]; omega)
  have hx : xs[k]? = some (xs[k]'(by rw [h.len]; exact hk)) := List.getElem?_eq_getElem _
  exact ⟨b, off, _, e, hb, hx, hc k _ (by rw [List.getElem?_map, hx]; rfl)⟩
theorem cellsSp : Try.prog.cellsOf 31 = 2 := by kernel_rfl
theorem sp_cells {H : Type} {enc : TypeId × Value → H} {W : World} {fuel : Nat} {base : Nat} {spare : Nat → Bool} {held : Bool} {cs : List Value} {z : DataW H × List MemPlace} (ht : DataW.trod enc Try.prog W base spare held fuel 31 cs = some z) :
    ∃ x : Int × Int, cs = spL x := by
  obtain ⟨xs, n, _, rfl, hcl, hlen, hf⟩ := DataW.trod_struct Try.underlying31 ht
  rw [cellsSp] at hcl
  match xs, hlen with
  | [y0, y1], _ =>
    obtain ⟨a0, e0, _, _⟩ := DataW.trod_int Try.underlying3 (hf 0 _ rfl)
    obtain ⟨a1, e1, _, _⟩ := DataW.trod_int Try.underlying3 (hf 1 _ rfl)
    have c0 : (cs.drop 0).take (Try.prog.cellsOf 3) = [.int .i64 a0] := e0
    have c1 : (cs.drop 1).take (Try.prog.cellsOf 3) = [.int .i64 a1] := e1
    rw [cellsI] at c0 c1
    refine ⟨(a0, a1), ?_⟩
    match cs, hcl with
    | [v0, v1], _ =>
      simp at c0 c1
      subst c0 c1
      rfl
theorem open_specs {H : Type} {enc : TypeId × Value → H} {W : World} {base : Nat} {v : Value} {d : DataW H} {p : List MemPlace} (hv : Value.okWide Try.prog W .any base 22 v)
    (h : DataW.Trod enc Try.prog W 0 (fun _ => true) true 22 v d p) : ∃ A n c xs, v = .slice A n c ∧ (n ≤ c ∧ c ≤ maxLen) ∧ SpecsAt W A n xs := by
  obtain ⟨A, n, c, rs, rfl, hl, hm, hg, hr⟩ := open_many (z := 2) (by decide) Try.underlying22 cellsSp (fun cs => ∃ x : Int × Int, cs = spL x) (fun m k cs x ht => sp_cells ht) (fun cs ⟨q, he⟩ => by rw [he]; rfl) hv h
  have : ∀ rs : List (List Value), (∀ r ∈ rs, ∃ x : Int × Int, r = spL x) → ∃ xs : List (Int × Int), rs = xs.map spL := by
    intro rs
    induction rs with
    | nil => intro _; exact ⟨[], rfl⟩
    | cons r t ih =>
      intro hr
      obtain ⟨q, e⟩ := hr r (List.mem_cons_self ..)
      obtain ⟨ps, e2⟩ := ih (fun x hx => hr x (List.mem_cons_of_mem _ hx))
      exact ⟨q :: ps, by rw [e, e2]; rfl⟩
  obtain ⟨xs, e⟩ := this rs hg
  exact ⟨A, n, c, xs, rfl, hm, by rw [← hl, e, List.length_map], e ▸ hr⟩
/-! ### specs that can be -/
def goodSp (x : Int × Int) : Bool := decide ((x.1 = 1 ∨ x.1 = 2) ∧ 1 ≤ x.2 ∧ x.2 ≤ 8)
def freshP (x : Int × Int) (b : Nat) : Mp := ⟨62, kd (decide (x.1 = 2)), b, .slice none 0 0, x.2.toNat, []⟩
def freshR (x : Int × Int) (b : Nat) : Mp := ⟨67, .bool (decide (x.1 = 2)), b, .slice none 0 0, x.2.toNat, []⟩
theorem new_spec (x : Int × Int) (w : World) (h : goodSp x = true) : Calls Try.prog 23 #[.int .i64 x.1, .int .i64 x.2] w (Made (decide (x.1 = 2)) x.2.toNat w) := by
  obtain ⟨k, r⟩ := x
  obtain ⟨h1, h2, h3⟩ := of_decide_eq_true h
  simp only at h1 h2 h3
  obtain ⟨m, rfl⟩ : ∃ m : Nat, r = (m : Int) := ⟨r.toNat, by omega⟩
  rcases h1 with rfl | rfl
  · exact new_hash m w (by omega) (by omega)
  · exact new_lru m w (by omega) (by omega)
theorem rnew_spec (x : Int × Int) (w : World) (h : goodSp x = true) : Calls Try.prog 8 #[.int .i64 x.1, .int .i64 x.2] w (RMade (decide (x.1 = 2)) x.2.toNat w) := by
  obtain ⟨k, r⟩ := x
  obtain ⟨h1, h2, h3⟩ := of_decide_eq_true h
  simp only at h1 h2 h3
  obtain ⟨m, rfl⟩ : ∃ m : Nat, r = (m : Int) := ⟨r.toNat, by omega⟩
  rcases h1 with rfl | rfl
  · exact rnew_hash m w (by omega) (by omega)
  · exact rnew_lru m w (by omega) (by omega)
theorem new_bad (x : Int × Int) (w : World) (h : goodSp x = false) : Calls Try.prog 23 #[.int .i64 x.1, .int .i64 x.2] w fun e w' => e = .returned (.tuple #[.pointer none, .int .i64 22]) ∧ Below w.heap.size w w' := new_no x.1 x.2 w (of_decide_eq_false h)
theorem rnew_bad (x : Int × Int) (w : World) (h : goodSp x = false) : Calls Try.prog 8 #[.int .i64 x.1, .int .i64 x.2] w fun e w' => e = .returned (.pointer none) ∧ Below w.heap.size w w' := rnew_no x.1 x.2 w (of_decide_eq_false h)
/-- while the maps are made -/
structure MkS (w : World) (base : Nat) (xs : List (Int × Int)) (k : Nat) (v : Value) (bs : List Nat) (ms : List Mp) (W : World) : Prop where
  own : W.ownsRow base PT 1 v k (ptrs bs)
  all : Ms base (fun k => False ∨ v.ownBlock = some k) ms W
  len : ms.length = k
  is : ∀ i x, i < k → xs[i]? = some x → goodSp x = true ∧ ms[i]? = some (freshP x (bs.getD i 0))
  bel : Below w.heap.size w W
theorem MkS.start (w : World) (base : Nat) (xs : List (Int × Int)) : MkS w base xs 0 (.slice none 0 0) [] [] w where
  own := ⟨rfl, Or.inl ⟨rfl, rfl⟩⟩
  all := (Ms.nil base w).sub (fun k hk => by rcases hk with h | h; exact h; cases h)
  len := rfl
  is := fun i x hi => absurd hi (Nat.not_lt_zero _)
  bel := Below.refl _ _
def MakeGive (base n : Nat) (xs : List (Int × Int)) (w : World) (e : Ending) (w' : World) : Prop :=
  if n ≤ 4 ∧ xs.all goodSp = true then ∃ v bs ms, e = .returned (.tuple #[v, .int .i64 0]) ∧ MkS w base xs n v bs ms w'
  else e = .returned (.tuple #[.slice none 0 0, .int .i64 22]) ∧ Below w.heap.size w w'
theorem MkS.call {w : World} {base : Nat} {xs : List (Int × Int)} {k : Nat} {v : Value} {bs : List Nat} {ms : List Mp} {W W' : World} (h : MkS w base xs k v bs ms W) (hb : Below W.heap.size W W') : MkS w base xs k v bs ms W' :=
  ⟨owns_below h.own hb, h.all.call hb, h.len, h.is, h.bel.trans (hb.mono h.bel.size)⟩
/-- one map more is made, not yet appended -/
structure Mk1 (w : World) (base : Nat) (xs : List (Int × Int)) (k : Nat) (v : Value) (bs : List Nat) (ms : List Mp) (x : Int × Int) (b : Nat) (W : World) : Prop where
  own : W.ownsRow base PT 1 v k (ptrs bs)
  all : Ms base (fun k => False ∨ v.ownBlock = some k) (ms ++ [freshP x b]) W
  len : ms.length = k
  good : goodSp x = true
  is : ∀ i x, i < k → xs[i]? = some x → goodSp x = true ∧ ms[i]? = some (freshP x (bs.getD i 0))
  bel : Below w.heap.size w W
theorem MkS.add {w : World} {base : Nat} {xs : List (Int × Int)} {k : Nat} {v : Value} {bs : List Nat} {ms : List Mp} {x : Int × Int} {W W' : World} {e : Ending} (h : MkS w base xs k v bs ms W) (hbw : base ≤ W.heap.size) (hg : goodSp x = true) (hm : Made (decide (x.1 = 2)) x.2.toNat W e W') : Mk1 w base xs k v bs ms x W.heap.size W' := by
  obtain ⟨_, h1, h2⟩ := hm
  refine ⟨owns_below h.own h2, h.all.add h2 (freshP x W.heap.size) (h1 base hbw) (fun k hk => ?_), h.len, hg, h.is, h.bel.trans (h2.mono h.bel.size)⟩
  rcases hk with e | e
  · rw [e]; exact Nat.le_refl _
  · cases e
theorem Mk1.call {w : World} {base : Nat} {xs : List (Int × Int)} {k : Nat} {v : Value} {bs : List Nat} {ms : List Mp} {x : Int × Int} {b : Nat} {W W' : World} (h : Mk1 w base xs k v bs ms x b W) (hb : Below W.heap.size W W') : Mk1 w base xs k v bs ms x b W' :=
  ⟨owns_below h.own hb, h.all.call hb, h.len, h.good, h.is, h.bel.trans (hb.mono h.bel.size)⟩
theorem Mk1.done {w : World} {base : Nat} {xs : List (Int × Int)} {k : Nat} {v v' : Value} {bs : List Nat} {ms : List Mp} {x : Int × Int} {b : Nat} {W W' : World} (h : Mk1 w base xs k v bs ms x b W) (hx : xs[k]? = some x) (hbw : w.heap.size ≤ base) (hg : W.grownBy W' v.ownBlock) (hl : v'.ownBlock = v.ownBlock ∨ v'.ownBlock = some W.heap.size) (hown : W'.ownsRow base PT 1 v' (k + 1) (ptrs bs ++ [.pointer (some ⟨b, 0, none⟩)])) :
    MkS w base xs (k + 1) v' (bs ++ [b]) (ms ++ [freshP x b]) W' := by
  have hbl : bs.length = k := by have := h.own.1; rw [ptrs_length] at this; omega
  refine ⟨by rw [ptrs_snoc]; exact hown, h.all.grow hg hl (fun k hk => (hown.lt k hk).2), by rw [List.length_append, h.len]; rfl, fun i y hi hy => ?_, h.bel.grown hg h.bel.size (fun j hj => Nat.le_trans hbw (h.own.lt j hj).1)⟩
  by_cases e : i = k
  · subst e
    rw [hx] at hy
    injection hy with hy
    subst hy
    refine ⟨h.good, ?_⟩
    have hml := h.len
    rw [List.getElem?_append_right (by omega), h.len, Nat.sub_self, List.getD_eq_getElem?_getD, List.getElem?_append_right (by omega), hbl, Nat.sub_self]
    rfl
  · obtain ⟨g1, g2⟩ := h.is i y (by omega) hy
    refine ⟨g1, ?_⟩
    rw [List.getElem?_append_left (by rw [h.len]; omega), g2]
    congr 2
    rw [List.getD_eq_getElem?_getD, List.getD_eq_getElem?_getD, List.getElem?_append_left (by omega)]
theorem all_no {xs : List (Int × Int)} {k : Nat} {x : Int × Int} (h : xs[k]? = some x) (hx : goodSp x = false) : xs.all goodSp = false := by
  rw [List.all_eq_false]
  exact ⟨x, List.mem_of_getElem? h, by rw [hx]; decide⟩
theorem make_no {base n : Nat} {xs : List (Int × Int)} {w w' : World} (h : ¬ (n ≤ 4 ∧ xs.all goodSp = true)) (hb : Below w.heap.size w w') : MakeGive base n xs w (.returned (.tuple #[.slice none 0 0, .int .i64 22])) w' := by
  unfold MakeGive; rw [if_neg h]; exact ⟨rfl, hb⟩
theorem make_yes {base n : Nat} {xs : List (Int × Int)} {w w' : World} {v : Value} {bs : List Nat} {ms : List Mp} (h4 : n ≤ 4) (hl : xs.length = n) (h : MkS w base xs n v bs ms w') : MakeGive base n xs w (.returned (.tuple #[v, .int .i64 0])) w' := by
  unfold MakeGive
  rw [if_pos]
  · exact ⟨v, bs, ms, rfl, h⟩
  · refine ⟨h4, ?_⟩
    rw [List.all_eq_true]
    intro x hx
    obtain ⟨i, hi, rfl⟩ := List.getElem_of_mem hx
    exact (h.is i _ (by omega) (List.getElem?_eq_getElem hi)).1
set_option maxRecDepth 100000 in
set_option maxHeartbeats 2000000 in
theorem make_any (A : Option Addr) (n c base : Nat) (xs : List (Int × Int)) (w : World) (h : SpecsAt w A n xs) (hbase : base = w.heap.size) :
    Calls Try.prog 7 #[.slice A n c] w (MakeGive base n xs w) := by
  have H0 := Lib.hid h
  have HL := Lib.hid h.len
  have HBS := Lib.hid hbase
  have S0 := Lib.hid (MkS.start w base xs)
  obtain ⟨i0, hi0, hz0, hs0, hb0⟩ := info_parts info_p
  have HI0 := Lib.hid hi0
  have HZ0 := Lib.hid hz0
  have HS0 := Lib.hid hs0
  have HB0 := Lib.hid hb0
  have HNW := Lib.hid (fun x w h => new_spec x w h)
  have HNB := Lib.hid (fun x w h => new_bad x w h)
  clear h hi0 hz0 hs0 hb0 hbase
  by_cases h4 : n ≤ 4
  · have H4 := Lib.hid h4
    have h4i : ¬ ((4 : Int) < (n : Int)) := by omega
    go_enter Try.func7, Try.ntmps7
    go_wp2
    go_loopw [4, 14] (fun l i wr => ∃ (k : Nat) (A' : Option Addr) (c' : Nat) (bs : List Nat) (ms : List Mp), k ≤ n ∧ i = .int .i64 (k : Int) ∧ l = .slice A' k c' ∧ Hid (MkS w base xs k (.slice A' k c') bs ms wr)) (fun _ i _ => n - (intOf i).toNat)
    case atStart => exact ⟨0, none, 0, [], [], Nat.zero_le _, rfl, rfl, S0⟩
    case round =>
      clear S0
      obtain ⟨k, A', c', bs, ms, hk, rfl, rfl, S⟩ := hrel
      rename World => wo
      by_cases hlt : k < n
      · obtain ⟨b, off, x, hA, hb, hx, hc⟩ := (H0.out.step (S.out.bel)).get k hlt
        subst hA
        have HC := Lib.hid hc
        have HX := Lib.hid hx
        have hk0 : (0 : Int) ≤ (k : Int) := by omega
        have hk1 : (k : Int) < (n : Int) := by omega
        clear hx hc hb
        cases hg : goodSp x with
        | true =>
          have HG := Lib.hid hg
          clear hg
          go_wp2_with (first
            | ((with_reducible refine wpList_load_at spT HC.out rfl rfl (.tmp 16) rfl ?_ ?_); (exact rfl))
            | ((with_reducible refine wpList_store_newrow spT (vs := spL x) rfl (spL_one _) rfl (.tmp 6) (.tmp 17) rfl rfl ?_ ?_ ?_); (exact rfl); (exact rfl); intro W4 hP hb hz; have hkc := hP.cell 0 _ rfl; have hrc := hP.cell 1 _ rfl; replace S := Lib.hid (S.out.call hb); clear hP hb hz; generalize wo.heap.size = G at hkc hrc ⊢)
            | (go_at_call 23; refine (HNW.out x W4 HG.out).mono ?_; intro e w5 hm; have S5 := Lib.hid (S.out.add (by have := S.out.bel.size; have := HBS.out; omega) HG.out hm); obtain ⟨rfl, _, _⟩ := hm; clear hkc hrc S; generalize W4.heap.size = B5 at S5 ⊢; have HNw := Lib.hid (cell_one_new w5 (.pointer (some ⟨B5, 0, none⟩)) 34); have S6 := Lib.hid (S5.out.call ((Below.refl _ _).alloc (Nat.le_refl _) (.cells #[.pointer (some ⟨B5, 0, none⟩)] 34))); have HSZ : Hid (base ≤ (w5.alloc (.cells #[.pointer (some ⟨B5, 0, none⟩)] 34)).heap.size) := Lib.hid (by have := S6.out.bel.size; have := HBS.out; omega))
            | (at_builtin; go_must (refine wpList_append_own_at _ rfl (.tmp 29) (.tmp 31) 26 rfl base 34 i0 _ 1 8 Try.underlying26 HI0.out HZ0.out HS0.out HB0.out rfl (by omega) _ k _ rfl S6.out.own ⟨w5.heap.size, 0, none⟩ 1 1 [.pointer (some ⟨B5, 0, none⟩)] rfl rfl HNw.out (by intro u hu; simp at hu; subst hu; rfl) (by unfold maxLen; omega) (by omega) HSZ.out ?_); intro v' w7 hown' hgrow hnil hloc; obtain ⟨A', c', rfl⟩ := owns_slice hown'))
          have S7 := Lib.hid (S6.out.done HX.out (Nat.le_of_eq HBS.out.symm) hgrow hloc hown')
          clear hown' hgrow hnil hloc S5 S6
          go_roundw
          case rel => exact ⟨k + 1, A', c', _, _, by omega, by go_num, rfl, S7⟩
          case measure => (simp [intOf] <;> omega)
        | false =>
          have HG := Lib.hid hg
          have HF := Lib.hid (fun w' => make_no (base := base) (n := n) (w := w) (w' := w') (fun hh => by have := all_no HX.out HG.out; rw [hh.2] at this; cases this))
          clear hg
          go_wp2_with (first
            | ((with_reducible refine wpList_load_at spT HC.out rfl rfl (.tmp 16) rfl ?_ ?_); (exact rfl))
            | ((with_reducible refine wpList_store_newrow spT (vs := spL x) rfl (spL_one _) rfl (.tmp 6) (.tmp 17) rfl rfl ?_ ?_ ?_); (exact rfl); (exact rfl); intro W4 hP hb hz; have hkc := hP.cell 0 _ rfl; have hrc := hP.cell 1 _ rfl; replace S := Lib.hid (S.out.call hb); clear hP hb hz; generalize wo.heap.size = G at hkc hrc ⊢)
            | (go_at_call 23; refine (HNB.out x W4 HG.out).mono ?_; rintro e w5 ⟨rfl, hb⟩; have B5 := Lib.hid (S.out.bel.trans (hb.mono S.out.bel.size)); clear hb hkc hrc S))
          go_ret2
          exact HF.out _ B5.out
      · obtain rfl : k = n := by omega
        have HF := Lib.hid (make_yes h4 HL.out S.out)
        clear hlt
        go_wp2
        go_ret2
        exact HF.out
  · have h4i : (4 : Int) < (n : Int) := by omega
    have HF := Lib.hid (make_no (base := base) (xs := xs) (w := w) (w' := w) (fun hh => h4 hh.1) (Below.refl _ _))
    clear h4
    go_enter Try.func7, Try.ntmps7
    go_wp2
    go_ret2
    exact HF.out
end Go.Proofs.Ytkomehplcacbcaa
