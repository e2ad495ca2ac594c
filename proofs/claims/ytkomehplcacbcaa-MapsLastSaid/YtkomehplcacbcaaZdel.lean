/-
  slices.Delete of one entry; remove.
-/
import Derived.Test.YtkomehplcacbcaaZfind
import Derived.Test.YtkomehplcacbcaaAstill
import Derived.Laws.IdiomCopy
import Derived.Deep.DeepCutAuto
namespace Go.Proofs.Ytkomehplcacbcaa
open Go.RowKit Go.Maps

theorem own_cut {w : World} {base : Nat} {t : TypeId} {g n cap k : Nat} {xs : List Value} (h : w.ownsRow base t 5 (.slice (some ⟨g, 0, none⟩) n cap) n xs) (hk : k ≤ n) : w.ownsRow base t 5 (.slice (some ⟨g, 0, none⟩) k cap) k (xs.take (k * 5)) := by
  refine ⟨by rw [List.length_take, h.1]; omega, ?_⟩
  rcases h.2 with ⟨e, _⟩ | ⟨g', cap', cur, e, hb, hg, hnc, hcm, hsz, htk⟩
  · cases e
  · injection e with e1 _ e2
    injection e1 with e1
    injection e1 with e1
    subst e1 e2
    refine Or.inr ⟨g, cap, cur, rfl, hb, hg, by omega, hcm, hsz, ?_⟩
    rw [← htk, List.take_take, Nat.min_eq_left (by omega)]
theorem own_cap {w : World} {base : Nat} {t : TypeId} {g n cap : Nat} {xs : List Value} (h : w.ownsRow base t 5 (.slice (some ⟨g, 0, none⟩) n cap) n xs) : n ≤ cap ∧ cap ≤ maxLen ∧ g < w.heap.size ∧ base ≤ g := by
  rcases h.2 with ⟨e, _⟩ | ⟨g', cap', cur, e, hb, hg, hnc, hcm, hsz, htk⟩
  · cases e
  · injection e with e1 _ e2
    injection e1 with e1
    injection e1 with e1
    subst e1 e2
    exact ⟨hnc, hcm, (Array.getElem?_eq_some_iff.1 hg).1, hb⟩
theorem own_there {w : World} {base : Nat} {t : TypeId} {g n cap : Nat} {xs : List Value} (h : w.ownsRow base t 5 (.slice (some ⟨g, 0, none⟩) n cap) n xs) (o k : Nat) (hk : o + k ≤ cap * 5) : w.there g o k := by
  rcases h.2 with ⟨e, _⟩ | ⟨g', cap', cur, e, hb, hg, hnc, hcm, hsz, htk⟩
  · cases e
  · injection e with e1 _ e2
    injection e1 with e1
    injection e1 with e1
    subst e1 e2
    intro j hj
    refine ⟨?_, frozen_of_row w g _ cur t hg⟩
    rw [cell_of_row w g _ cur t (0, 0) hg, Array.getElem?_eq_getElem (by omega)]
    rfl
theorem own_beyond {w : World} {base : Nat} {t : TypeId} {g n cap : Nat} {xs : List Value} (h : w.ownsRow base t 5 (.slice (some ⟨g, 0, none⟩) n cap) n xs) (o : Nat) (v : Value) (ho : n * 5 ≤ o) : (w.setCell ⟨g, o, none⟩ v).ownsRow base t 5 (.slice (some ⟨g, 0, none⟩) n cap) n xs := by
  refine ⟨h.1, ?_⟩
  rcases h.2 with ⟨e, _⟩ | ⟨g', cap', cur, e, hb, hg, hnc, hcm, hsz, htk⟩
  · cases e
  · injection e with e1 _ e2
    injection e1 with e1
    injection e1 with e1
    subst e1 e2
    refine Or.inr ⟨g, cap, cur.setIfInBounds o v, rfl, hb, heap_setCell_same w g o cur t v hg, hnc, hcm, by simpa using hsz, ?_⟩
    rw [Array.toList_setIfInBounds, List.take_set_of_le ho, htk]
theorem own_beyonds {base : Nat} {t : TypeId} {g n cap : Nat} {xs : List Value} : ∀ (vs : List Value) (o : Nat) (w : World), w.ownsRow base t 5 (.slice (some ⟨g, 0, none⟩) n cap) n xs → n * 5 ≤ o → (w.setCells g o vs).ownsRow base t 5 (.slice (some ⟨g, 0, none⟩) n cap) n xs
  | [], _, _, h, _ => h
  | v :: r, o, w, h, ho => by
    rw [World.setCells]
    exact own_beyonds r (o + 1) _ (own_beyond h o v ho) (by omega)
def zero5 : List Value := [.int .i64 0, .int .i64 0, .int .i64 0, .int .i64 0, .int .i64 0]
theorem run_clear_en (w : World) (ty : TypeId) (g o c : Nat) (hth : w.there g o 5) :
    (Builtin.clear_ #[46] ty #[.slice (some ⟨g, o, none⟩) 1 c]).run Try.prog w = .ok (.tuple #[]) (w.setCells g o zero5) := by
  have hz : (zeroValue 62).run Try.prog w = .ok (.agg #[.int .i64 0, .int .i64 0, .int .i64 0, .int .i64 0, .int .i64 0]) w := by kernel_rfl
  have hzc : (Builtin.zeroCells (Value.agg #[.int .i64 0, .int .i64 0, .int .i64 0, .int .i64 0, .int .i64 0]).cells 1).toList = zero5 := by kernel_rfl
  have hst := run_storeCells_cells (P := Try.prog) g o zero5 0 w (fun j hj => by rw [Nat.add_zero]; exact (hth j hj).1) (fun j hj => by rw [Nat.add_zero]; exact (hth j hj).2) (by
    intro v hv
    simp only [zero5, List.mem_cons, List.not_mem_nil, or_false] at hv
    rcases hv with rfl | rfl | rfl | rfl | rfl <;> rfl)
  rw [Nat.add_zero] at hst
  simp only [Builtin.clear_, run_underlying Try.underlying46, Sem.run_bind, Sem.run_pure, Result.andThen_ok, List.getElem?_toArray, List.getElem?_cons_zero, hz, hzc, hst]
theorem wpList_clear_en {ops : Array Oper} {rest : List Oper} {op : Oper} {a : Act} {Q : Exit → Act → World → Prop} {w : World} (g o n c : Nat) (h1 : n = 1) (hth : w.there g o 5) (hgd : op.guard = none) (v : Operand) (cl : Call) (ho : op.op = .call cl) (hc : cl.callee = .builtin .clear) (ha : cl.args = #[v]) (ht : cl.argTypes = #[46])
    (hv : a.eval v = .slice (some ⟨g, o, none⟩) n c) (h : wpList Try.prog ops Q rest (a.put op.dst (.tuple #[])) (w.setCells g o zero5)) : wpList Try.prog ops Q (op :: rest) a w :=
  wpList_plain hgd fun _ hK => by
    subst h1
    have hr : (execOp a.eval op).run Try.prog w = .ok (.value (.tuple #[])) (w.setCells g o zero5) := by
      unfold execOp
      simp [ho, resolve, hc, ha, ht, hv, Go.invoke, Go.builtin, run_clear_en w _ g o c hth]
    unfold Oper.wp
    rw [hr]
    exact hK _ _ h
theorem erase_parts (l : List Z.En) (i : Nat) : l.eraseIdx i = l.take i ++ l.drop (i + 1) := List.eraseIdx_eq_take_drop_succ l i
theorem wpList_append_fits {ops : Array Oper} {rest : List Oper} {o : Oper} {a : Act} {Q : Exit → Act → World → Prop} {w : World} (hgd : o.guard = none) (s x : Operand) (t : TypeId)
    (ho : o.op = .call { callee := .builtin .append, args := #[s, x], argTypes := #[t, t] })
    (base : Nat) (e : TypeId) (i : TypeInfo) (size : Nat) (ht : Try.prog.underlying t = some (.slice e)) (hi : Try.prog.info? e = some i) (hsize : i.size = size)
    (g n cap : Nat) (xs : List Value) (hs : a.eval s = .slice (some ⟨g, 0, none⟩) n cap) (hown : w.ownsRow base e size (.slice (some ⟨g, 0, none⟩) n cap) n xs)
    (ad : Addr) (m c : Nat) (news : List Value) (hx : a.eval x = .slice (some ad) m c) (hl : news.length = m * size) (hnews : ∀ j u, news[j]? = some u → w.cell? (ad.add j) = some u) (h1 : ∀ u ∈ news, u.oneCell' = true)
    (hroom : n + m ≤ cap)
    (h : ∀ w', w'.ownsRow base e size (.slice (some ⟨g, 0, none⟩) (n + m) cap) (n + m) (xs ++ news) → w.grownBy w' (some g) → wpList Try.prog ops Q rest (a.put o.dst (.slice (some ⟨g, 0, none⟩) (n + m) cap)) w') :
    wpList Try.prog ops Q (o :: rest) a w := by
  refine wpList_plain hgd fun K hK => ?_
  obtain ⟨w', hr, h2, h3⟩ := run_append_fits (P := Try.prog) w base t o.type e i size ht hi hsize g n cap xs hown ad m c news hl hnews h1 hroom
  unfold Oper.wp execOp
  simp only [ho, resolve, invoke, builtin, Sem.run_bind, Sem.run_pure, Result.andThen_ok, List.map_toArray, List.map_cons, List.map_nil, hs, hx, hr]
  exact hK _ _ (h w' h2 h3)
set_option maxHeartbeats 2000000 in
theorem del_any (base g n cap i j : Nat) (l : List Z.En) (w : World) (h : w.ownsRow base 62 5 (.slice (some ⟨g, 0, none⟩) n cap) n (cellsE l)) (hi : i < n) (hj : j = i + 1) (hn : n ≤ 1000) :
    Calls Try.prog 32 #[.slice (some ⟨g, 0, none⟩) n cap, .int .i64 (i : Int), .int .i64 (j : Int)] w fun e w' => e = .returned (.slice (some ⟨g, 0, none⟩) (n - 1) cap) ∧
      w'.ownsRow base 62 5 (.slice (some ⟨g, 0, none⟩) (n - 1) cap) (n - 1) (cellsE (l.eraseIdx i)) ∧ But (fun k => k = g) w w' := by
  obtain ⟨hnc, hcm, hgl, hbg⟩ := own_cap h
  have hln : l.length = n := by have := h.1; rw [cellsE_length] at this; omega
  obtain ⟨m, hm⟩ : ∃ m, n = m + 1 := ⟨n - 1, by omega⟩
  have HM : Hid (i + (n - j) = m) := Lib.hid (by omega)
  have HE : Hid (cellsE (l.take i) ++ cellsE (l.drop j) = cellsE (l.eraseIdx i)) := Lib.hid (by rw [erase_parts, cellsE_app, hj])
  have HOwn : Hid (w.drew.ownsRow base 62 5 (.slice (some ⟨g, 0, none⟩) i cap) i (cellsE (l.take i))) := Lib.hid (by rw [cellsE_take]; exact own_cut h (by omega))
  have HL : Hid ((cellsE (l.drop j)).length = (n - j) * 5) := Lib.hid (by rw [cellsE_length, List.length_drop, hln])
  obtain ⟨A, hA, HS⟩ : ∃ A : Addr, (if cap = j then (some ⟨g, 0, none⟩ : Option Addr) else some ⟨g, j * 5, none⟩) = some A ∧ Hid (∀ t u, (cellsE (l.drop j))[t]? = some u → w.drew.cell? (A.add t) = some u) := by
    by_cases hc : cap = j
    · refine ⟨⟨g, 0, none⟩, by rw [if_pos hc], fun t u hu => ?_⟩
      have : (cellsE (l.drop j)).length = 0 := by rw [HL.out]; omega
      rw [List.length_eq_zero_iff.1 this] at hu
      simp at hu
    · refine ⟨⟨g, j * 5, none⟩, by rw [if_neg hc], fun t u hu => ?_⟩
      rw [cellsE_drop, List.getElem?_drop] at hu
      have h2 := h.cells (g := g) rfl (j * 5 + t) u hu
      have e1 : (⟨g, j * 5, none⟩ : Addr).add t = (⟨g, 0, none⟩ : Addr).add (j * 5 + t) := by unfold Addr.add; split <;> split <;> simp_all <;> omega
      rw [e1]
      exact h2
  obtain ⟨i0, hi0, hz0, hs0, hb0⟩ := info_parts info_en
  have HI0 := Lib.hid hi0
  have HS0 := Lib.hid hs0
  have HB : Hid (n - 1 = m) := Lib.hid (by omega)
  have hij : i < j := by omega
  have hjn : j ≤ n := by omega
  have hic : i ≤ cap := by omega
  have hjc : j ≤ cap := by omega
  have hmn : m < n := by omega
  have hnm : n - m = 1 := by omega
  have HF : Hid (m * 5 + 5 ≤ cap * 5) := Lib.hid (by omega)
  have HR : Hid (i + (n - j) ≤ cap) := Lib.hid (by omega)
  have hne : ¬ (i = j) := by omega
  rw [HB.out]
  have hmc : m < cap := by omega
  have hcap63 : cap ≤ 9223372036854775807 := by unfold maxLen at hcm; omega
  clear h hm hj hi0 hz0 hs0 hb0 hln hcm hi
  go_enter Try.func32, Try.ntmps32
  go_upto_region 5 with fail
  refine ws_region 6 (by kernel_rfl) ?_
  simp only [List.take_succ_cons, List.take_zero, List.drop_succ_cons, List.drop_zero]
  refine ws_take (.slice (some ⟨g, 0, none⟩) n cap) (by kernel_rfl) ?_ ?_
  · (go_simp)
  (try simp only [Act.put, List.setIfInBounds_toArray, List.set_cons_zero, List.set_cons_succ])
  refine ws_take (.int .i64 (i : Int)) (by kernel_rfl) ?_ ?_
  · (go_simp)
  (try simp only [Act.put, List.setIfInBounds_toArray, List.set_cons_zero, List.set_cons_succ])
  refine ws_take (.slice (some ⟨g, 0, none⟩) i cap) (by kernel_rfl) ?_ ?_
  · (go_simp)
  (try simp only [Act.put, List.setIfInBounds_toArray, List.set_cons_zero, List.set_cons_succ])
  refine ws_take (.slice (some ⟨g, 0, none⟩) n cap) (by kernel_rfl) ?_ ?_
  · (go_simp)
  (try simp only [Act.put, List.setIfInBounds_toArray, List.set_cons_zero, List.set_cons_succ])
  refine ws_take (.int .i64 (j : Int)) (by kernel_rfl) ?_ ?_
  · (go_simp)
  (try simp only [Act.put, List.setIfInBounds_toArray, List.set_cons_zero, List.set_cons_succ])
  refine ws_take (.slice (some A) (n - j) (cap - j)) (by kernel_rfl) ?_ ?_
  · (go_simp)
  (try simp only [Act.put, List.setIfInBounds_toArray, List.set_cons_zero, List.set_cons_succ])
  refine ws_nil ?_
  refine wpList_append_fits rfl (.tmp 22) (.tmp 25) 46 rfl base 62 i0 5 Try.underlying46 HI0.out HS0.out g i cap _ rfl HOwn.out A (n - j) (cap - j) _ rfl HL.out HS.out (cellsE_one _) HR.out ?_
  intro w1 hown hgr
  rw [HM.out, HE.out] at hown
  rw [HM.out]
  have HO := Lib.hid hown
  have HG := Lib.hid hgr
  have HT := Lib.hid (own_there hown (m * 5) 5 HF.out)
  have HB1 : Hid (But (fun k => k = g) w w1) := Lib.hid (((But.drew _ w).trans (But.of_grown hgr) (fun x hx => Or.inl (by injection hx with hx; exact hx.symm))))
  clear hown hgr HOwn HS HL
  go_wp2_with (first
    | ((with_reducible refine wpList_clear_en g (m * 5) 1 (cap - m) rfl HT.out rfl (.tmp 31) _ rfl rfl rfl rfl ?_ ?_); (exact rfl)))
  go_ret
  refine ⟨rfl, own_beyonds _ _ _ HO.out (Nat.le_refl _), HB1.out.trans (But.setCells g _ _ _) (fun x hx => Or.inl hx)⟩
/-- remove: the entry that stands there is gone -/
theorem rem_any (hd : Value) (base b : Nat) (sv : Value) (room : Nat) (l : List Z.En) (i : Nat) (w : World) (h : MpAt 62 hd w base b sv room l) (hi : i < l.length) (hn : l.length ≤ 1000) :
    Calls Try.prog 26 #[.pointer (some ⟨b, 0, none⟩), .int .i64 (i : Int)] w fun e w' => e = .returned (.tuple #[]) ∧ ∃ sv', MpTo 62 hd w base b sv room (l.eraseIdx i) w' sv' := by
  obtain ⟨x, hx⟩ : ∃ x, l[i]? = some x := ⟨_, List.getElem?_eq_getElem hi⟩
  obtain ⟨g, cap, hsv, hnc, hcm, hbg, hgl, _⟩ := own_range h.own hx
  subst hsv
  have hgb : g ≠ b := fun e => h.ne (by rw [e]; rfl)
  have hc2 := h.row.cell 2 _ rfl
  have H := Lib.hid h
  have HD0 := del_any base g l.length cap i (i + 1) l w h.own hi rfl hn
  rw [show ((i + 1 : Nat) : Int) = (i : Int) + 1 by omega] at HD0
  have HD := Lib.hid HD0
  clear HD0
  have HL : Hid ((l.eraseIdx i).length = l.length - 1) := Lib.hid (by rw [List.length_eraseIdx, if_pos hi])
  have hw : IntKind.i64.wrap ((i : Int) + 1) = (i : Int) + 1 := by rw [IntKind.wrap_i64]; omega
  clear h hx hnc hcm hbg hi
  go_enter Try.func26, Try.ntmps26
  go_wp2_with (go_at_call 32; refine (HD.out).mono ?_; rintro e w2 ⟨rfl, hown, hbut⟩; have HO := Lib.hid hown; have HB := Lib.hid hbut; have hr2 := H.out.row.but hbut (fun e => hgb e.symm); have hc3 := hr2.cell 2 _ rfl; have hf3 := hr2.frozen 2 (show 2 < 3 by decide); clear hown hbut hr2)
  go_end0
  refine ⟨rfl, .slice (some ⟨g, 0, none⟩) (l.length - 1) cap, ?_⟩
  refine MpTo.stored H.out (HB.out.mono (fun x hx => Or.inl (by rw [hx]; rfl))) ?_ (fun k hk => Or.inl hk)
  rw [HL.out]
  exact HO.out
end Go.Proofs.Ytkomehplcacbcaa
