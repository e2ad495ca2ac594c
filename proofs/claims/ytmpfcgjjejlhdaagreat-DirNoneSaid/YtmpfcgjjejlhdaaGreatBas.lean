/- Texts of the proof. -/
import Derived.Test.YtmpfcgjjejlhdaaGreatBar
import Derived.Lib.SliceRun
import Derived.Test.YtmpfcgjjejlhdaaGreatBam
import Derived.Test.YtmpfcgjjejlhdaaGreatBaq
import Derived.Test.YtmpfcgjjejlhdaaGreatBap
import Derived.Test.YtmpfcgjjejlhdaaGreatBal
set_option maxRecDepth 100000
set_option maxHeartbeats 16000000
namespace Go.Proofs.YtmpfcgjjejlhdaaGreat
section
open Go.RowKit Go.Maps
open Dm (Ent Has)
theorem flat_take : ∀ (D : List Ent) (i : Nat), (D.flatMap entE).take (i * 2) = (D.take i).flatMap entE
  | [], i => by simp
  | x :: D, 0 => by simp
  | x :: D, i + 1 => by
    rw [List.flatMap_cons, List.take_succ_cons, List.flatMap_cons, ← flat_take D i, List.take_append, entE_length, List.take_of_length_le (by rw [entE_length]; omega), show (i + 1) * 2 - 2 = i * 2 by omega]
theorem flat_drop : ∀ (D : List Ent) (i : Nat), (D.flatMap entE).drop (i * 2) = (D.drop i).flatMap entE
  | [], i => by simp
  | x :: D, 0 => by simp
  | x :: D, i + 1 => by
    rw [List.flatMap_cons, List.drop_succ_cons, ← flat_drop D i, List.drop_append, entE_length, List.drop_of_length_le (by rw [entE_length]; omega), show (i + 1) * 2 - 2 = i * 2 by omega]
    rfl
theorem flat_set (D : List Ent) (i : Nat) (e : Ent) (h : i < D.length) : (D.set i e).flatMap entE = (D.flatMap entE).take (i * 2) ++ entE e ++ (D.flatMap entE).drop (i * 2 + (entE e).length) := by
  rw [flat_take, entE_length, show i * 2 + 2 = (i + 1) * 2 by omega, flat_drop, List.set_eq_take_append_cons_drop, if_pos h, List.flatMap_append, List.flatMap_cons, List.append_assoc]
theorem row_set {W : World} {g : Nat} {D : List Ent} (h : RowAt W g (D.flatMap entE)) (i : Nat) (e : Ent) (hi : i < D.length) : RowAt (W.setCells g (i * 2) (entE e)) g ((D.set i e).flatMap entE) := by
  rw [flat_set D i e hi]
  exact RowAt.part _ _ _ _ h (by rw [flatE_length, entE_length]; omega)
theorem row_lt {W : World} {g : Nat} {D : List Ent} (h : RowAt W g (D.flatMap entE)) (hd : 0 < D.length) : g < W.heap.size :=
  World.block_lt_of_cell? W _ (h.cell 0 _ (List.getElem?_eq_getElem (by rw [flatE_length]; omega)))
theorem row_there {W : World} {g : Nat} {D : List Ent} (h : RowAt W g (D.flatMap entE)) (i : Nat) (hi : i < D.length) : W.there g (i * 2) 2 := fun j hj => by
  have := h.free (i * 2 + j) (by rw [flatE_length]; omega)
  rw [Nat.zero_add] at this
  exact this
theorem row_ent {W : World} {g : Nat} {D : List Ent} (h : RowAt W g (D.flatMap entE)) (i : Nat) (e : Ent) (hi : D[i]? = some e) : W.rangeAt g (i * 2) (entE e) := fun j v hv => h.cell (i * 2 + j) v (flatE_at D i e j v hi hv)
structure DelS (E : List Ent) (g i j : Nat) (D : List Ent) (W : World) : Prop where
  row : RowAt W g (D.flatMap entE)
  len : D.length = E.length
  ij : i < j
  jn : j ≤ E.length
  fst : D.take i = Dm.live (E.take j)
  rest : ∀ x, j ≤ x → D[x]? = E[x]?
section
variable {E D : List Ent} {g i j : Nat} {W W' : World}
theorem live_take {j : Nat} {e : Ent} (he : E[j]? = some e) : Dm.live (E.take (j + 1)) = Dm.live (E.take j) ++ if Dm.used e = true then [e] else [] := by
  unfold Dm.live
  rw [List.take_add_one, he, List.filter_append]
  show _ = _ ++ _
  congr 1
  simp only [Option.toList, List.filter_cons, List.filter_nil]
theorem DelS.start (hr : RowAt W g (E.flatMap entE)) (h : E.findIdx? (fun e => !Dm.used e) = some i) : DelS E g i (i + 1) E W := by
  obtain ⟨hi, h1, h2⟩ := List.findIdx?_eq_some_iff_getElem.1 h
  refine ⟨hr, rfl, Nat.lt_succ_self _, hi, ?_, fun _ _ => rfl⟩
  rw [live_take (List.getElem?_eq_getElem hi), if_neg (by simpa using h1), List.append_nil]
  unfold Dm.live
  symm
  rw [List.filter_eq_self]
  intro e he
  obtain ⟨k, hk, rfl⟩ := List.mem_iff_getElem.1 he
  rw [List.length_take] at hk
  rw [List.getElem_take]
  have := h2 k (by omega)
  simpa using this
theorem DelS.lt (h : DelS E g i j D W) : g < W.heap.size := row_lt h.row (by have := h.len; have := h.ij; have := h.jn; omega)
theorem DelS.below (h : DelS E g i j D W) (hb : Below W.heap.size W W') : DelS E g i j D W' := ⟨h.row.block (hb.block g h.lt), h.len, h.ij, h.jn, h.fst, h.rest⟩
theorem DelS.at_ (h : DelS E g i j D W) {e : Ent} (he : E[j]? = some e) : W.rangeAt g (j * 2) (entE e) := row_ent h.row j e (by rw [h.rest j (Nat.le_refl _)]; exact he)
theorem DelS.keep (h : DelS E g i j D W) {e : Ent} (he : E[j]? = some e) (hu : Dm.used e = false) : DelS E g i (j + 1) D W :=
  ⟨h.row, h.len, by have := h.ij; omega, (List.getElem?_eq_some_iff.1 he).1, by rw [live_take he, if_neg (by rw [hu]; decide), List.append_nil]; exact h.fst, fun x hx => h.rest x (by omega)⟩
theorem DelS.move (h : DelS E g i j D W) {e : Ent} (he : E[j]? = some e) (hu : Dm.used e = true) : DelS E g (i + 1) (j + 1) (D.set i e) (W.setCells g (i * 2) (entE e)) := by
  have hi : i < D.length := by have := h.len; have := h.ij; have := h.jn; omega
  refine ⟨row_set h.row i e hi, by rw [List.length_set]; exact h.len, by have := h.ij; omega, (List.getElem?_eq_some_iff.1 he).1, ?_, fun x hx => ?_⟩
  · rw [live_take he, if_pos hu, ← h.fst, List.take_set, List.take_succ_eq_append_getElem hi, List.set_append_right _ _ (by simp; omega)]
    have : i - (List.take i D).length = 0 := by simp; omega
    rw [this]
    rfl
  · rw [List.getElem?_set_ne (by have := h.ij; omega)]
    exact h.rest x (by omega)
theorem DelS.there (h : DelS E g i j D W) : W.there g (i * 2) 2 := row_there h.row i (by have := h.len; have := h.ij; have := h.jn; omega)
end
theorem zero_ent (w : World) : (zeroValue 41).run Tryz.prog w = .ok (.agg #[.int .i64 0, .string ⟨#[]⟩]) w := by kernel_rfl
theorem zeros_ents (n : Nat) : (Builtin.zeroCells #[.int .i64 0, .string ⟨#[]⟩] n).toList = (List.replicate n ((0, []) : Ent)).flatMap entE := by
  unfold Builtin.zeroCells
  rw [Array.toList_map, Array.toList_range]
  induction n with
  | zero => rfl
  | succ n ih =>
    rw [show (n + 1) * (#[Value.int .i64 0, .string ⟨#[]⟩] : Array Value).size = n * (#[Value.int .i64 0, .string ⟨#[]⟩] : Array Value).size + 1 + 1 from by show (n + 1) * 2 = n * 2 + 1 + 1; omega, List.range_succ, List.range_succ, List.map_append, List.map_append, ih, List.replicate_succ', List.flatMap_append, List.append_assoc]
    congr 1
    simp only [List.map_cons, List.map_nil]
    have e1 : n * (#[Value.int .i64 0, .string ⟨#[]⟩] : Array Value).size % (#[Value.int .i64 0, .string ⟨#[]⟩] : Array Value).size = 0 := by show n * 2 % 2 = 0; omega
    have e2 : (n * (#[Value.int .i64 0, .string ⟨#[]⟩] : Array Value).size + 1) % (#[Value.int .i64 0, .string ⟨#[]⟩] : Array Value).size = 1 := by show (n * 2 + 1) % 2 = 1; omega
    rw [e1, e2]
    rfl
theorem clear_ents {W : World} {g : Nat} {D : List Ent} (hr : RowAt W g (D.flatMap entE)) (i n c : Nat) (hn : 0 < n) (hl : i + n ≤ D.length) (ty : TypeId) :
    (Builtin.clear_ #[36] ty #[.slice (some ⟨g, i * 2, none⟩) n c]).run Tryz.prog W = .ok (.tuple #[]) (W.setCells g (i * 2) ((List.replicate n ((0, []) : Ent)).flatMap entE)) := by
  have hL : ((List.replicate n ((0, []) : Ent)).flatMap entE).length = n * 2 := by rw [flatE_length, List.length_replicate]
  have hf : ∀ j, j < n * 2 → W.frozen? ⟨g, i * 2 + j, none⟩ = false ∧ (W.cell? ⟨g, i * 2 + j, none⟩).isSome = true := fun j hj => by
    have := hr.free (i * 2 + j) (by rw [flatE_length]; omega)
    rw [Nat.zero_add] at this
    exact ⟨this.2, this.1⟩
  have hst := run_storeCells_cells (P := Tryz.prog) g (i * 2) ((List.replicate n ((0, []) : Ent)).flatMap entE) 0 W (by rw [hL]; intro j hj; rw [Nat.add_zero]; exact (hf j hj).2) (by rw [hL]; intro j hj; rw [Nat.add_zero]; exact (hf j hj).1) (by intro v hv; obtain ⟨e, he, hve⟩ := List.mem_flatMap.1 hv; exact entE_one e v hve)
  simp only [Nat.add_zero] at hst
  obtain ⟨m, rfl⟩ : ∃ m, n = m + 1 := ⟨n - 1, by omega⟩
  have hz : (Value.agg #[.int .i64 0, .string ⟨#[]⟩]).cells = #[.int .i64 0, .string ⟨#[]⟩] := rfl
  simp [Builtin.clear_, run_underlying Tryz.underlying36, hz, zeros_ents, hst]
theorem qrun_clear_op {W : World} {g : Nat} {D : List Ent} {ρ : Operand → Value} {op : Oper} (hr : RowAt W g (D.flatMap entE)) (i n c : Nat) (hn : 0 < n) (hl : i + n ≤ D.length) (v : Operand) (cl : Call) (ho : op.op = .call cl) (hc : cl.callee = .builtin .clear) (ha : cl.args = #[v]) (ht : cl.argTypes = #[36])
    (hv : ρ v = .slice (some ⟨g, i * 2, none⟩) n c) : (execOp ρ op).run Tryz.prog W = .ok (.value (.tuple #[])) (W.setCells g (i * 2) ((List.replicate n ((0, []) : Ent)).flatMap entE)) := by
  have h := fun ty => clear_ents hr i n c hn hl ty
  unfold execOp
  simp [ho, resolve, hc, ha, ht, hv, Go.invoke, Go.builtin, h]
theorem wpList_clear_ents {ops : Array Oper} {rest : List Oper} {op : Oper} {a : Act} {Q : Exit → Act → World → Prop} {W : World} {g : Nat} {D : List Ent} (hr : RowAt W g (D.flatMap entE)) (i n c : Nat) (hn : 0 < n) (hl : i + n ≤ D.length) (hgd : op.guard = none) (v : Operand) (cl : Call) (ho : op.op = .call cl) (hc : cl.callee = .builtin .clear) (ha : cl.args = #[v]) (ht : cl.argTypes = #[36])
    (hv : a.eval v = .slice (some ⟨g, i * 2, none⟩) n c) (h : wpList Tryz.prog ops Q rest (a.put op.dst (.tuple #[])) (W.setCells g (i * 2) ((List.replicate n ((0, []) : Ent)).flatMap entE))) : wpList Tryz.prog ops Q (op :: rest) a W :=
  wpList_plain hgd fun _ hK => by
    unfold Oper.wp
    rw [qrun_clear_op hr i n c hn hl v cl ho hc ha ht hv]
    exact hK _ _ h
theorem DelS.done {E D : List Ent} {g i : Nat} {W : World} (h : DelS E g i E.length D W) (us : List Value) (hu : us.length = (E.length - i) * 2) : EntRow (W.setCells g (i * 2) us) (some ⟨g, 0, none⟩) i (Dm.live E) ∧ (Dm.live E).length = i := by
  have hf := h.fst
  rw [List.take_length] at hf
  have hij := h.ij
  have hlen := h.len
  have hl : (Dm.live E).length = i := by rw [← hf, List.length_take]; omega
  have hr := RowAt.part us W _ (i * 2) h.row (by rw [flatE_length]; omega)
  refine ⟨⟨hl, fun h0 => ⟨g, 0, rfl, by rw [heap_setCells]; exact h.lt, fun k e hk j v hv => ?_⟩⟩, hl⟩
  have hki : k < i := by rw [← hl]; exact (List.getElem?_eq_some_iff.1 hk).1
  have hj : j < 2 := (List.getElem?_eq_some_iff.1 hv).1
  have hD : D[k]? = some e := by rw [← hf, List.getElem?_take_of_lt hki] at hk; exact hk
  rw [Nat.zero_add]
  refine hr.cell (k * 2 + j) v ?_
  have h1 := flatE_at D k e j v hD hv
  have hlt := (List.getElem?_eq_some_iff.1 h1).1
  rw [List.append_assoc, List.getElem?_append_left (by rw [List.length_take]; omega), List.getElem?_take_of_lt (by omega)]
  exact h1
theorem wpList_store_ent {ops : Array Oper} {rest : List Oper} {op : Oper} {a : Act} {Q : Exit → Act → World → Prop} {w : World} {b o : Nat} {e : Ent} (hth : w.there b o 2) (hgd : op.guard = none) (x y : Operand) (ho : op.op = .store 41 x y)
    (hx : a.eval x = .pointer (some ⟨b, o, none⟩)) (hy : a.eval y = .agg (entE e).toArray) (hn : wpList Tryz.prog ops Q rest (a.put op.dst undef) (w.setCells b o (entE e))) : wpList Tryz.prog ops Q (op :: rest) a w :=
  wpList_store_mid hgd 41 x y ho b o (entE e).toArray hx hy (by rw [List.size_toArray, entE_length]; exact hth) (by rw [entT.info, List.size_toArray, entE_length]) (all_oneCell_toArray (entE_one e)) (by simpa using hn)
theorem del_any {w : World} {base : Nat} {A : Option Addr} {c : Nat} {E : List Ent} (h : w.ownsRow base 41 2 (.slice A E.length c) E.length (E.flatMap entE)) (hb : base ≤ w.heap.size) (hr : EntRow w A E.length E) (hE : E.length ≤ 1000) (hst : ∀ e ∈ E, Nm.standB e.1 e.2 = true) :
    Calls Tryz.prog 69 #[.slice A E.length c, .func (.func 70) #[] #[]] w fun e w' => ∃ A' c', e = .returned (.slice A' (Dm.live E).length c') ∧ EntRow w' A' (Dm.live E).length (Dm.live E) ∧ (∀ b off, A' = some ⟨b, off, none⟩ → 0 < (Dm.live E).length → base ≤ b) ∧ Below base w w' := by
  have HI : Hid (Calls Tryz.prog 91 #[.slice A E.length c, .func (.func 70) #[] #[]] w fun e w' => e = .returned (.int .i64 (idxI (Dm.room E))) ∧ Below w.heap.size w w') := Lib.hid (idx_any (fun e => !Dm.used e) _ _ (fun args w => by simp [go_sem]) A E.length c E w hr hE (fun W2 e he hb => empty_ent (hst e he) W2))
  cases hq : Dm.room E with
  | none =>
    have hl : Dm.live E = E := by
      unfold Dm.live
      rw [List.filter_eq_self]
      intro e he
      have := List.findIdx?_eq_none_iff.1 (show E.findIdx? (fun e => !Dm.used e) = none from hq) e he
      simpa using this
    rw [hq] at HI
    simp only [idxI] at HI
    rw [hl]
    have HR := Lib.hid hr
    have HO := Lib.hid (owns_ents h)
    clear h hr hst hq hl
    go_enter Tryz.func69, Tryz.ntmps69
    go_wp2_with (go_at_call 91; refine HI.out.mono ?_; rintro e w1 ⟨rfl, hb1⟩; have HB := Lib.hid hb1; clear hb1)
    go_ret
    refine ⟨A, c, rfl, HR.out.below HB.out, fun b off e h0 => ?_, HB.out.mono hb⟩
    rcases HO.out with rfl | ⟨g, rfl, hg, _⟩
    · exact absurd h0 (Nat.lt_irrefl _)
    · injection e with e
      injection e with e
      omega
  | some i0 =>
    have hE0 : E ≠ [] := fun q => by rw [q] at hq; cases hq
    rcases owns_ents h with q | ⟨g, rfl, hg, hrow⟩
    · exact absurd q hE0
    have hcap : E.length ≤ c := by
      rcases h.2 with ⟨_, e2⟩ | ⟨g', cap, cur, e, _, hg', hcap, _⟩
      · exact absurd (List.eq_nil_of_length_eq_zero e2) hE0
      · injection e with _ _ e
        omega
    rw [hq] at HI
    simp only [idxI] at HI
    have HD0 := Lib.hid (fun W (hb1 : Below w.heap.size w W) => (DelS.start hrow hq).below hb1)
    have HST := Lib.hid hst
    have hi0 : (0 : Int) ≤ (i0 : Int) := by omega
    have hi1 : i0 < E.length := (List.findIdx?_eq_some_iff_getElem.1 hq).1
    clear h hr hst hq hE0 hrow
    obtain ⟨N, hN⟩ : ∃ N, E.length = N := ⟨_, rfl⟩
    rw [hN] at HI hcap hE hi1 ⊢
    have HN := Lib.hid hN
    clear hN
    go_enter Tryz.func69, Tryz.ntmps69
    go_wp2_with (go_at_call 91; refine HI.out.mono ?_; rintro e w1 ⟨rfl, hb1⟩; have HD := Lib.hid (HD0.out _ hb1); have HB := Lib.hid (hb1.mono hb); clear hb1 HD0)
    go_loopw [5, 6, 7] (fun iv jv _ wr => ∃ (i j : Nat) (D : List Ent), iv = .int .i64 i ∧ jv = .int .i64 j ∧ i < j ∧ j ≤ N ∧ Hid (Below base w wr) ∧ Hid (DelS E g i j D wr)) (fun _ jv _ _ => N - (intOf jv).toNat)
    case atStart => exact ⟨i0, i0 + 1, E, rfl, by go_num, Nat.lt_succ_self _, hi1, HB, HD⟩
    case round =>
      clear HB HD
      obtain ⟨i, j, D, rfl, rfl, hij, hjn, HB, HD⟩ := hrel
      rename World => wr
      by_cases hlt : j < N
      · obtain ⟨e, he⟩ : ∃ e, E[j]? = some e := ⟨_, List.getElem?_eq_getElem (by rw [HN.out]; exact hlt)⟩
        have HAT := Lib.hid (HD.out.at_ he)
        have HE := Lib.hid he
        have HC : Hid (∀ W, Calls Tryz.prog 70 #[.agg (entE e).toArray] W fun r w' => r = .returned (.bool (!Dm.used e)) ∧ Below W.heap.size W w') := Lib.hid (fun W => empty_ent (HST.out e (List.mem_of_getElem? he)) W)
        clear he
        have hlz : (j : Int) < (N : Int) := by omega
        cases hu : Dm.used e with
        | true =>
          rw [hu] at HC
          have HU := Lib.hid hu
          clear hu
          go_wp2_with (first
            | (with_reducible refine wpList_load_mid rfl 41 (.tmp 24) rfl g (j * 2) rfl (entE e) _ HAT.out Tryz.underlying41 rfl (by kernel_rfl) ?_)
            | ((with_reducible refine wpList_store_newrow entT (vs := entE e) (entE_length _) (entE_one _) rfl (.tmp 7) (.tmp 25) rfl rfl ?_ ?_ ?_); (exact rfl); (exact rfl); intro W4 hP hB2 hz2; have R := Lib.hid hP; have HD4 := Lib.hid (HD.out.below hB2); have HB4 := Lib.hid (HB.out.trans (hB2.mono (Nat.le_trans hb HB.out.size))); clear hP hB2 hz2)
            | (with_reducible refine wpList_load_rw entT R.out (entE_length _) rfl (.tmp 7) rfl rfl ?_))
          refine (HC.out _).mono ?_
          rintro r w5 ⟨rfl, hb5⟩
          have R5 : Hid (RowAt w5 wr.heap.size (entE e)) := Lib.hid (R.out.step hb5)
          have HD5 := Lib.hid (HD4.out.below hb5)
          have HB5 := Lib.hid (HB4.out.trans (hb5.mono (Nat.le_trans hb HB4.out.size)))
          clear hb5 R HD4 HB4 HD HB HAT
          have HTH := Lib.hid HD5.out.there
          go_wp2_with (first
            | (with_reducible refine wpList_load_rw entT R5.out (entE_length _) rfl (.tmp 7) rfl rfl ?_)
            | ((with_reducible refine wpList_store_ent (e := e) HTH.out rfl (.tmp 33) (.tmp 32) rfl rfl ?_ ?_); (exact rfl); have HD6 := Lib.hid (HD5.out.move HE.out HU.out); have HB6 := Lib.hid (below_setCells g hg (entE e) (i * 2) _ HB5.out); generalize w5.setCells g (i * 2) (entE e) = w6 at HD6 HB6 ⊢))
          go_roundw
          case rel =>
            refine ⟨_, _, _, _, _, _, _, _, _, _, _, _, _, _, _, _, _, _, _, _, _, _, _, ?_, rfl⟩
            exact ⟨i + 1, j + 1, D.set i e, by go_num, by go_num, by omega, by omega, HB6, HD6⟩
          case measure => simp [intOf]; omega
        | false =>
          rw [hu] at HC
          have HU := Lib.hid hu
          clear hu
          go_wp2_with (first
            | (with_reducible refine wpList_load_mid rfl 41 (.tmp 24) rfl g (j * 2) rfl (entE e) _ HAT.out Tryz.underlying41 rfl (by kernel_rfl) ?_)
            | ((with_reducible refine wpList_store_newrow entT (vs := entE e) (entE_length _) (entE_one _) rfl (.tmp 7) (.tmp 25) rfl rfl ?_ ?_ ?_); (exact rfl); (exact rfl); intro W4 hP hB2 hz2; have R := Lib.hid hP; have HD4 := Lib.hid (HD.out.below hB2); have HB4 := Lib.hid (HB.out.trans (hB2.mono (Nat.le_trans hb HB.out.size))); clear hP hB2 hz2)
            | (with_reducible refine wpList_load_rw entT R.out (entE_length _) rfl (.tmp 7) rfl rfl ?_))
          refine (HC.out _).mono ?_
          rintro r w5 ⟨rfl, hb5⟩
          have HD5 := Lib.hid ((HD4.out.below hb5).keep HE.out HU.out)
          have HB5 := Lib.hid (HB4.out.trans (hb5.mono (Nat.le_trans hb HB4.out.size)))
          clear hb5 R HD4 HB4 HD HB HAT
          go_wp2_with fail
          go_roundw
          case rel =>
            refine ⟨_, _, _, _, _, _, _, _, _, _, _, _, _, _, _, _, _, _, _, _, _, _, _, ?_, rfl⟩
            exact ⟨i, j + 1, D, by go_num, by go_num, by omega, by omega, HB5, HD5⟩
          case measure => simp [intOf]; omega
      · obtain rfl : j = N := by omega
        have hlz : ¬ (j : Int) < (j : Int) := by omega
        have hn : 0 < j - i := by omega
        have hl : i + (j - i) ≤ D.length := by have := HD.out.len; have := HN.out; omega
        have HRW := Lib.hid HD.out.row
        have hic : i ≤ c := by omega
        go_wp2_with ((with_reducible refine wpList_clear_ents HRW.out i (j - i) (c - i) hn hl rfl (.tmp 38) _ rfl rfl rfl rfl ?_ ?_); (exact rfl))
        have hD := HD.out
        rw [← HN.out] at hD
        obtain ⟨r1, r2⟩ := hD.done ((List.replicate (j - i) ((0, []) : Ent)).flatMap entE) (by rw [flatE_length, List.length_replicate, HN.out])
        have hB := below_setCells g hg ((List.replicate (j - i) ((0, []) : Ent)).flatMap entE) (i * 2) _ HB.out
        go_ret
        rw [r2]
        exact ⟨_, ⟨_, rfl⟩, r1, fun b off e h0 => by injection e with e; injection e with e _; omega, hB⟩
end

section
open Go.RowKit Go.Maps
open Dk (zeros zeros_length)
open Ii (Ino)
open Dm (Ent Has)
open Fs (flat)
section
variable {w : World} {B : Nat} {b : Blk} {s : Sto} {n I : Int} {x : Ino} {u : Nat} {P : Nat → List UInt8} {E : List Ent} {H : Has}
theorem field_tab (A1 : Option Addr) (n1 c1 : Nat) (A2 : Option Addr) (n2 c2 : Nat) (W : World) : (Instr.field 88 (tabV A1 n1 c1 A2 n2 c2) 1).run Tryz.prog W = .ok (.slice A2 n2 c2) W := by kernel_rfl
theorem dall_any (h : Ctx w B b s n I) (hd : Dm.Dr n I (nv s) x u P E H) :
    Calls Tryz.prog 29 #[dirV B 1] w fun e w' => ∃ A c, e = .returned (.slice A (Dm.live E).length c) ∧ EntRow w' A (Dm.live E).length (Dm.live E) ∧ (∀ b off, A = some ⟨b, off, none⟩ → 0 < (Dm.live E).length → w.heap.size ≤ b) ∧ Below w.heap.size w w' := by
  have S := Lib.hid (dir_one w B)
  have HT := Lib.hid (fun W l (hl : Lo [] w l W) => tab_any (Lo.ctx (L := []) hl h) hd)
  have hfew := hd.few
  have hst := hd.ok.st
  have HD : Hid (∀ W0 W A1 A2 c2 ps, w.heap.size ≤ W0.heap.size → Below W0.heap.size W0 W → TabAt W0 W A1 A2 c2 ps E → Calls Tryz.prog 69 #[.slice A2 E.length c2, .func (.func 70) #[] #[]] W fun e w' => ∃ A' c', e = .returned (.slice A' (Dm.live E).length c') ∧ EntRow w' A' (Dm.live E).length (Dm.live E) ∧ (∀ b off, A' = some ⟨b, off, none⟩ → 0 < (Dm.live E).length → w.heap.size ≤ b) ∧ Below w.heap.size W w') := Lib.hid (fun W0 W A1 A2 c2 ps h0 hb T => (del_any T.own hb.size T.row (by omega) hst).mono fun e w' ⟨A', c', h1, h2, h3, h4⟩ => ⟨A', c', h1, h2, fun b off e h5 => Nat.le_trans h0 (h3 b off e h5), h4.mono h0⟩)
  clear h hd hfew hst
  generalize pagesE E (flat P 36) = ps at HT
  obtain ⟨m, hmm⟩ : ∃ m, E.length / 4 = m := ⟨_, rfl⟩
  rw [hmm] at HT
  clear hmm
  go_enter Tryz.func29, Tryz.ntmps29
  go_wp2_with (first
    | (with_reducible refine wpList_load_rw dirT (S.out.get 0 _ rfl) rfl rfl (.tmp 1) rfl rfl ?_)
    | (go_at_call 48; have HSZ := Lib.hid S.out.bel.size; refine (HT.out _ _ S.out).mono ?_; rintro e w2 ⟨A1, c1, A2, c2, rfl, hT, hb⟩; replace S := Lib.hid (S.out.below hb); have T := Lib.hid hT; have HB := Lib.hid hb; have hfd := field_tab A1 m c1 A2 E.length c2; clear hT hb)
    | (go_at_call 69; refine (HD.out _ _ _ _ _ _ HSZ.out HB.out T.out).mono ?_; rintro e w3 ⟨A3, c3, rfl, hE3, hg3, hb3⟩))
  go_ret
  exact ⟨A3, c3, rfl, hE3, hg3, S.out.bel.trans hb3⟩
theorem dempty_yes (h : Ctx w B b s n I) (hd : Dm.Dr n I (nv s) x u P E H) (hl : Dm.live E = []) :
    Calls Tryz.prog 17 #[dirV B 1] w fun e w' => e = .returned (.bool true) ∧ Below w.heap.size w w' := by
  have S := Lib.hid (dir_one w B)
  have HT := Lib.hid (fun W l (hl : Lo [] w l W) => dall_any (Lo.ctx (L := []) hl h) hd)
  rw [hl] at HT
  clear h hd hl
  simp only [List.length_nil] at HT
  go_enter Tryz.func17, Tryz.ntmps17
  go_wp2_with (first
    | (with_reducible refine wpList_load_rw dirT (S.out.get 0 _ rfl) rfl rfl (.tmp 1) rfl rfl ?_)
    | (go_at_call 29; refine (HT.out _ _ S.out).mono ?_; rintro e w2 ⟨A, c, rfl, _, _, hb⟩; replace S := Lib.hid (S.out.below hb); clear hb))
  go_ret
  exact ⟨rfl, S.out.bel⟩
theorem dfind_none (h : Ctx w B b s n I) (hd : Dm.Dr n I (nv s) x u P E H) (t : List UInt8) (hk : Dm.spot E t = none) :
    Calls Tryz.prog 44 #[dirV B 1, .string (strOf t)] w fun e w' => e = .returned (.int .i64 0) ∧ Below w.heap.size w w' := by
  have S := Lib.hid (dir_one w B)
  have HT := Lib.hid (fun W l (hl : Lo [] w l W) => tab_any (Lo.ctx (L := []) hl h) hd)
  have hfew := hd.few
  have HFD : Hid (∀ A1 c1 A2 c2 W, EntRow W A2 E.length E → Calls Tryz.prog 49 #[tabV A1 (E.length / 4) c1 A2 E.length c2, .string (strOf t)] W fun e w' => e = .returned (.int .i64 (-1)) ∧ Below W.heap.size W w') := Lib.hid (fun A1 c1 A2 c2 W hr => by
    have := find_any A1 (E.length / 4) c1 A2 E.length c2 t E W hr (by omega) hd.ok.st
    rw [hk] at this
    exact this)
  clear h hd hk hfew
  generalize pagesE E (flat P 36) = ps at HT
  obtain ⟨m, hmm⟩ : ∃ m, E.length / 4 = m := ⟨_, rfl⟩
  rw [hmm] at HT HFD
  clear hmm
  go_enter Tryz.func44, Tryz.ntmps44
  go_wp2_with (first
    | (with_reducible refine wpList_load_rw dirT (S.out.get 0 _ rfl) rfl rfl (.tmp 2) rfl rfl ?_)
    | (go_at_call 48; refine (HT.out _ _ S.out).mono ?_; rintro e w2 ⟨A1, c1, A2, c2, rfl, hT, hb⟩; replace S := Lib.hid (S.out.below hb); have T := Lib.hid hT; clear hT hb)
    | ((with_reducible refine wpList_store_newrow (vs := tabL A1 m c1 A2 E.length c2) tabT ?_ (tabL_one _ _ _ _ _ _) rfl (.tmp 5) (.tmp 8) rfl rfl ?_ ?_ ?_); (exact rfl); (exact rfl); (exact rfl); intro W4 hP hB2 hz2; replace S := Lib.hid (S.out.made hP hB2 hz2); replace T := Lib.hid (T.out.below hB2); clear hP hB2 hz2)
    | (with_reducible refine wpList_load_rw tabT (S.out.get 1 _ rfl) rfl rfl (.tmp 5) rfl rfl ?_)
    | (go_at_call 49; refine (HFD.out _ _ _ _ _ T.out.row).mono ?_; rintro e w3 ⟨rfl, hb⟩; replace S := Lib.hid (S.out.below hb); clear hb))
  go_ret
  exact ⟨rfl, S.out.bel⟩
end
end



section
open Go.RowKit Go.Maps
open Dk (zeros zeros_length)
open Ii (Ino)
open Dm (Ent Has)
open Fs (flat)
theorem ofE_dir {n I : Int} {V : Fs.View} {x : Ino} {u : Nat} {P : Nat → List UInt8} {E : List Ent} {H : Has} (h : Dm.Dr n I V x u P E H) : ofE I 1 V = 0 := by
  unfold ofE
  rw [if_pos ⟨Int.le_refl _, h.rt.I1⟩, h.rt.at1, if_pos h.rt.k]
theorem ofE_two {V : Fs.View} (h : Two 60 4 fileI V) (i : Int) : ofE 4 i V = wantN i := by
  unfold wantN
  by_cases c1 : i = 1
  · rw [if_pos c1, c1]; exact ofE_dir h.dir
  · rw [if_neg c1]
    unfold ofE
    by_cases c2 : i = 2
    · rw [if_pos c2, c2, if_pos (by decide), h.two]
      rfl
    · rw [if_neg c2]
      by_cases c3 : 1 ≤ i ∧ i ≤ 4
      · rw [if_pos c3, h.rest i (by omega) (by omega)]
        rfl
      · rw [if_neg c3]
def PA (L : List Ent) (Y : Nat) (M : Nat) (_ : Unit) (W : World) : Prop := ∃ A c, RowAt W Y [.slice A L.length c] ∧ EntRow W A L.length L ∧ ∀ b off, A = some ⟨b, off, none⟩ → 0 < L.length → M ≤ b
theorem PA.stable (L : List Ent) (Y N M : Nat) (a : Unit) : StableN [Y] N M (PA L Y M a) := by
  rintro w w' l ⟨A, c, h1, h2, h3⟩ ho hl _
  exact ⟨A, c, h1.only ho (fun q => (hl Y q).1 (by simp)), h2.only ho (fun h0 k hk b off e q => by have := (hl k hk).2; have := h3 b off e h0; omega), h3⟩
section
variable {w : World} {B : Nat} {b : Blk} {s : Sto} {n I : Int} {x : Ino} {u : Nat} {P : Nat → List UInt8} {E : List Ent} {H : Has}
theorem put_cell {W : World} (h : Ctx W B b s n I) {Y : Nat} {v : Value} (hY : RowAt W Y [v]) (hYB : Y ≠ B) (hYb : Y ∉ b.all) (v' : Value) : Ctx (W.setCell ⟨Y, 0, none⟩ v') B b s n I ∧ RowAt (W.setCell ⟨Y, 0, none⟩ v') Y [v'] ∧ Only [Y] W (W.setCell ⟨Y, 0, none⟩ v') := by
  have ho : Only [Y] W (W.setCell ⟨Y, 0, none⟩ v') := (Only.refl [Y] W).setCell (p := ⟨Y, 0, none⟩) (by simp) v'
  exact ⟨h.only ho (by simpa using fun q => hYB q.symm) (fun k hk q => hYb (by rw [List.mem_singleton] at q; exact q ▸ hk)), RowAt.setOne hY 0 v' (show 0 < 1 by decide), ho⟩
theorem all1_ok (h : Ctx w B b s n I) (hd : Dm.Dr n I (nv s) x u P E H) (X Y : Nat) (hX : RowAt w X [.int .i64 1]) (hY : RowAt w Y [.slice none 0 0]) (hYB : Y ≠ B) (hYb : Y ∉ b.all) :
    Calls Tryz.prog 28 #[.pointer (some ⟨B, 0, none⟩), .pointer (some ⟨X, 0, none⟩), .pointer (some ⟨Y, 0, none⟩)] w (Cb B b n I [Y] w s (Fs.ret ()) (PA (Dm.live E) Y w.heap.size) (fun _ => True)) := by
  have HC := Lib.hid h
  have HY := Lib.hid hY
  have HOF : Hid (∀ W, Ctx W B b s n I → Calls Tryz.prog 16 #[.pointer (some ⟨B, 0, none⟩), .int .i64 1] W fun e w' => e = .returned (dirV B 1) ∧ Below W.heap.size W w') := Lib.hid (fun W hc => of_yes hc 1 (ofE_dir hd))
  have HAL := Lib.hid (fun W (hc : Ctx W B b s n I) => dall_any hc hd)
  have cX := hX.cell 0 _ rfl
  clear h hd hX hY
  generalize Dm.live E = L at HAL ⊢
  go_enter Tryz.func28, Tryz.ntmps28
  go_wp2_with (first
    | (go_at_call 16; refine (HOF.out _ HC.out).mono ?_; rintro e w1 ⟨rfl, hb⟩; have HC1 := Lib.hid (HC.out.below hb); have HB1 := Lib.hid hb; clear hb)
    | (go_at_call 29; refine (HAL.out _ HC1.out).mono ?_; rintro e w2 ⟨A, c, rfl, he, hg, hb⟩; have HC2 := Lib.hid (HC1.out.below hb); have HB2 := Lib.hid (HB1.out.trans (hb.mono HB1.out.size)); have HE2 := Lib.hid he; have HG2 := Lib.hid hg; have HY2 := Lib.hid (HY.out.step HB2.out); have cY := HY2.out.cell 0 _ rfl; have fY := HY2.out.frozen 0 (show 0 < 1 by decide); clear hb he hg))
  go_end0
  obtain ⟨p1, p2, p3⟩ := put_cell HC2.out HY2.out hYB hYb (.slice A L.length c)
  have hlt := HY.out.lt
  have hs1 := HB1.out.size
  refine Or.inl ⟨(), s, [], rfl, Goes.refl s, p1, rfl, ⟨A, c, p2, HE2.out.only p3 (fun h0 k hk b' off e q => ?_), fun b' off e h0 => Nat.le_trans hs1 (HG2.out b' off e h0)⟩, ?_⟩
  · rw [List.mem_singleton] at hk
    have := HG2.out b' off e h0
    omega
  · exact ((show Only (b.t :: [Y]) w w2 from Only.below HB2.out)).trans (p3.mono (by simp))
theorem all1_no (h : Ctx w B b s n I) (i er : Int) (hx : ofE I i (nv s) = er) (h0 : er ≠ 0) (X Y : Nat) (hX : RowAt w X [.int .i64 i]) (Q : Unit → World → Prop) :
    Calls Tryz.prog 28 #[.pointer (some ⟨B, 0, none⟩), .pointer (some ⟨X, 0, none⟩), .pointer (some ⟨Y, 0, none⟩)] w (Cb B b n I [Y] w s (Fs.fail er) Q (fun _ => True)) := by
  have HOF := Lib.hid (of_no h i er hx h0)
  have cX := hX.cell 0 _ rfl
  clear h hx hX
  go_enter Tryz.func28, Tryz.ntmps28
  go_wp2_with (go_at_call 16; refine HOF.out.mono ?_; rintro e w1 ⟨rfl, hR, hO⟩)
  exact ⟨rfl, Or.inr ⟨er, Or.inl ⟨_, _, rfl⟩, h0, hR, rfl, trivial, hO.mono (by simp)⟩⟩
end
section
variable {w : World} {V : Nat} {b : Blk} {s : Sto} {n I : Int} {k : Nat} {x : Ino} {u : Nat} {P : Nat → List UInt8} {E : List Ent} {H : Has}
def Rested (w : World) (V : Nat) (b : Blk) (s : Sto) (n I : Int) (k : Nat) : Prop := ∃ s2, VolAt w V b s2 n I 0 ∧ Calm s2 n I k ∧ ∀ i, Out n i → nv s2 i = nv s i
theorem read_ok (hc : Calm s n I k) (hk : k ≤ 1000000) {Q : Unit → World → Prop} {Q' : World → Prop} {e : Ending} {w' : World} (h : Stepped V b n I s (Fs.ret ()) Q Q' e w') : e = .returned (.int .i64 0) ∧ Rested w' V b s n I (k + 1) ∧ Q () w' := by
  obtain ⟨er, s2, a, hto, rfl, HV, hq⟩ := h.to
  obtain ⟨c2, hr⟩ := hc.pureLong hk ((Fs.cv_ret ()).mono (by decide)) hto
  rcases hr with ⟨x, V2, L2, e1, rfl, rfl, hout⟩ | ⟨V2, L2, e1, _⟩
  · injection e1 with _ a2
    injection a2 with a2 _
    subst a2
    exact ⟨rfl, ⟨s2, HV, c2, hout⟩, hq⟩
  · injection e1 with a1
    cases a1
theorem read_no (hc : Calm s n I k) (hk : k ≤ 1000000) {er : Int} {Q : Unit → World → Prop} {Q' : World → Prop} {e : Ending} {w' : World} (h : Stepped V b n I s (Fs.fail er : Fs.M Unit) Q Q' e w') : e = .returned (.int .i64 er) ∧ Rested w' V b s n I (k + 1) ∧ Q' w' := by
  obtain ⟨er2, s2, a, hto, rfl, HV, hq⟩ := h.to
  obtain ⟨c2, hr⟩ := hc.pureLong hk ((Fs.cv_fail er).mono (by decide)) hto
  rcases hr with ⟨x, V2, L2, e1, _⟩ | ⟨V2, L2, e1, _, rfl, rfl⟩
  · injection e1 with a1
    cases a1
  · injection e1 with a1
    injection a1 with a1
    subst a1
    exact ⟨rfl, ⟨s2, HV, c2, fun _ _ => rfl⟩, hq⟩
theorem vall_box (w : World) (i : Int) : Lo [] w [(w.heap.size, [.int .i64 i]), (w.heap.size + 1, [.slice none 0 0])] ((w.alloc (.cells #[.int .i64 i] 3)).alloc (.cells #[.slice none 0 0] 36)) :=
  ((Lo.start (L := []) w (by simp)).alloc _ rfl [.int .i64 i] _).alloc (w.heap.size + 1) (by simp) [.slice none 0 0] _
theorem VolAt.fresh {W : World} (h : VolAt w V b s n I 0) {j : Nat} (hj : w.heap.size ≤ j) : j ≠ V ∧ j ∉ b.all := ⟨fun q => by have := h.row.lt; omega, fun q => by have := h.store.lt _ q; omega⟩
theorem only_back {w W w' : World} {L L' : List Nat} (hb : Below w.heap.size w W) (ho : Only L W w') (hL : ∀ i ∈ L, i ∈ L' ∨ w.heap.size ≤ i) : Only L' w w' := (show Only L' w W from Only.below hb).via ho hL
theorem vall_ok (h : VolAt w V b s n I 0) (hc : Calm s n I k) (hk : k ≤ 1000000) (hd : Dm.Dr n I (nv s) x u P E H) :
    Calls Tryz.prog 10 #[.pointer (some ⟨V, 0, none⟩), .int .i64 1] w fun e w' => ∃ A c, e = .returned (.tuple #[.slice A (Dm.live E).length c, .int .i64 0]) ∧ EntRow w' A (Dm.live E).length (Dm.live E) ∧ Rested w' V b s n I (k + 1) ∧ Only (V :: b.all) w w' := by
  have hmf : ∀ (fn : Fn) (first cap : Array Value) (w : World), (Instr.makeFunc fn first cap).run Tryz.prog w = .ok (.func fn first cap) w := fun _ _ _ _ => rfl
  have S := Lib.hid (vall_box w 1)
  have HDO : Hid (∀ W, Lo [] w [(w.heap.size, [.int .i64 1]), (w.heap.size + 1, [.slice none 0 0])] W → Calls Tryz.prog 11 #[.pointer (some ⟨V, 0, none⟩), .func (.func 28) #[] #[.pointer (some ⟨w.heap.size, 0, none⟩), .pointer (some ⟨w.heap.size + 1, 0, none⟩)]] W fun e w' => e = .returned (.int .i64 0) ∧ (∃ M, PA (Dm.live E) (w.heap.size + 1) M () w') ∧ Rested w' V b s n I (k + 1) ∧ Only (V :: b.all) w w') := Lib.hid (fun W hl => by
    have hv : VolAt W V b s n I 0 := h.below hl.bel
    obtain ⟨f1, f2⟩ := h.fresh (W := W) (show w.heap.size ≤ w.heap.size + 1 by omega)
    obtain ⟨g1, g2⟩ := h.fresh (W := W) (Nat.le_refl w.heap.size)
    have hlt := hl.lt 1 _ rfl
    have hlt0 := hl.lt 0 _ rfl
    refine (do_far hv hc.vs (by have := hc.q; omega) [w.heap.size + 1] (fun j hj => by rw [List.mem_singleton] at hj; subst hj; exact ⟨hlt, f1, f2⟩) (Fs.ret ()) (PA (Dm.live E) (w.heap.size + 1)) (fun _ => True) (fun M a => PA.stable _ _ _ _ a) (fun _ _ _ _ _ _ _ => trivial) 28 #[.pointer (some ⟨w.heap.size, 0, none⟩), .pointer (some ⟨w.heap.size + 1, 0, none⟩)] (fun args W => by simp [go_sem]) (fun B w1 hB hcx ho => ?_)).mono ?_
    · exact all1_ok hcx hd _ _ ((hl.get 0 _ rfl).only ho (by simpa using g1)) ((hl.get 1 _ rfl).only ho (by simpa using f1)) (by intro q; have : w.heap.size + 1 < W.heap.size := hlt; omega) f2
    · rintro e w' ⟨hst, hO⟩
      obtain ⟨e1, e2, M, _, e3⟩ := read_ok hc hk hst
      exact ⟨e1, ⟨M, e3⟩, e2, only_back hl.bel hO (fun i hi => by
        rcases List.mem_cons.1 hi with rfl | hi
        · exact Or.inl (List.mem_cons_self ..)
        · rcases List.mem_append.1 hi with hi | hi
          · exact Or.inl (List.mem_cons_of_mem _ hi)
          · rw [List.mem_singleton] at hi; right; omega)⟩)
  clear h hc hd
  generalize Dm.live E = L at HDO ⊢
  go_enter Tryz.func10, Tryz.ntmps10
  go_wp2_with (go_at_call 11; refine (HDO.out _ S.out).mono ?_; rintro e w2 ⟨rfl, ⟨M, A, c, hY, hE, _⟩, hR, hO⟩; have cY := hY.cell 0 _ rfl)
  go_ret2
  exact ⟨_, _, rfl, hE, hR, hO⟩
theorem vall_no (h : VolAt w V b s n I 0) (hc : Calm s n I k) (hk : k ≤ 1000000) (i er : Int) (hx : ofE I i (nv s) = er) (h0 : er ≠ 0) :
    Calls Tryz.prog 10 #[.pointer (some ⟨V, 0, none⟩), .int .i64 i] w fun e w' => e = .returned (.tuple #[.slice none 0 0, .int .i64 er]) ∧ Rested w' V b s n I (k + 1) ∧ Only (V :: b.all) w w' := by
  have hmf : ∀ (fn : Fn) (first cap : Array Value) (w : World), (Instr.makeFunc fn first cap).run Tryz.prog w = .ok (.func fn first cap) w := fun _ _ _ _ => rfl
  have S := Lib.hid (vall_box w i)
  have HDO : Hid (∀ W, Lo [] w [(w.heap.size, [.int .i64 i]), (w.heap.size + 1, [.slice none 0 0])] W → Calls Tryz.prog 11 #[.pointer (some ⟨V, 0, none⟩), .func (.func 28) #[] #[.pointer (some ⟨w.heap.size, 0, none⟩), .pointer (some ⟨w.heap.size + 1, 0, none⟩)]] W fun e w' => e = .returned (.int .i64 er) ∧ Rested w' V b s n I (k + 1) ∧ Only (V :: b.all) w w') := Lib.hid (fun W hl => by
    have hv : VolAt W V b s n I 0 := h.below hl.bel
    obtain ⟨f1, f2⟩ := h.fresh (W := W) (show w.heap.size ≤ w.heap.size + 1 by omega)
    obtain ⟨g1, g2⟩ := h.fresh (W := W) (Nat.le_refl w.heap.size)
    have hlt := hl.lt 1 _ rfl
    refine (do_any hv hc.vs (by have := hc.q; omega) [w.heap.size + 1] (fun j hj => by rw [List.mem_singleton] at hj; subst hj; exact ⟨hlt, f1, f2⟩) (Fs.fail er : Fs.M Unit) (fun _ _ => True) (fun _ => True) (fun _ _ _ _ _ _ _ _ => trivial) (fun _ _ _ _ _ _ _ => trivial) 28 #[.pointer (some ⟨w.heap.size, 0, none⟩), .pointer (some ⟨w.heap.size + 1, 0, none⟩)] (fun args W => by simp [go_sem]) (fun B w1 hB hcx ho => ?_)).mono ?_
    · exact all1_no hcx i er hx h0 _ _ ((hl.get 0 _ rfl).only ho (by simpa using g1)) _
    · rintro e w' ⟨hst, hO⟩
      obtain ⟨e1, e2, _⟩ := read_no hc hk hst
      exact ⟨e1, e2, only_back hl.bel hO (fun i hi => by
        rcases List.mem_cons.1 hi with rfl | hi
        · exact Or.inl (List.mem_cons_self ..)
        · rcases List.mem_append.1 hi with hi | hi
          · exact Or.inl (List.mem_cons_of_mem _ hi)
          · rw [List.mem_singleton] at hi; right; omega)⟩)
  have g0 : (er != 0) = true := by simpa using h0
  clear h hc hx h0
  go_enter Tryz.func10, Tryz.ntmps10
  go_wp2_with (go_at_call 11; refine (HDO.out _ S.out).mono ?_; rintro e w2 ⟨rfl, hR, hO⟩)
  go_ret2
  exact ⟨rfl, hR, hO⟩
end
theorem TW.rest {w w' : World} {V : Nat} {b : Blk} {s : Sto} {k : Nat} (h : Two 60 4 fileI (nv s)) (hr : Rested w' V b s 60 4 k) : TW w' V b k := by
  obtain ⟨s2, e3, e4, e5⟩ := hr
  exact ⟨s2, e3, e4, h.out pl60 (by decide) e5⟩
theorem none_spec : NoneSpec := by
  rintro W V b k ino ⟨s, hv, hc, ht⟩ hk
  have hof := ofE_two ht ino
  by_cases c : ino = 1
  · subst c
    refine (vall_ok hv hc (by omega) ht.dir).mono ?_
    rintro e w' ⟨A, c, e1, e2, e3, e6⟩
    exact ⟨A, c, e1, TW.rest (w := W) ht e3, e6⟩
  · have h0 : wantN ino ≠ 0 := by unfold wantN; rw [if_neg c]; split <;> decide
    refine (vall_no hv hc (by omega) ino _ hof h0).mono ?_
    rintro e w' ⟨e1, e3, e6⟩
    exact ⟨none, 0, e1, TW.rest (w := W) ht e3, e6⟩
end

section
open Go.RowKit Go.Maps
open Dk (zeros zeros_length)
open Ii (Ino)
open Dm (Ent Has)
open Fs (flat)
theorem ends_cb {B : Nat} {b : Blk} {n I : Int} {w : World} {s : Sto} {m : Fs.M Unit} {e : Ending} {w' : World} (h : Ends B b n I [] w s m KU e w') : Cb B b n I [] w s m (fun _ _ => True) (fun _ => True) e w' := by
  rcases h with ⟨a, s', L, h1, h2, h3, h4, h5⟩ | ⟨er, h1, h2, h3, h4, h5⟩
  · exact Or.inl ⟨a, s', L, h1, h2, h3, h4, trivial, h5⟩
  · exact Or.inr ⟨er, h1, h2, h3, h4, trivial, h5⟩
section
variable {w : World} {V : Nat} {b : Blk} {s : Sto} {n I : Int} {k : Nat} {x : Ino} {u : Nat} {P : Nat → List UInt8} {E : List Ent} {H : Has}
end
end

section
open Go.RowKit Go.Maps
open Dk (zeros zeros_length)
open Ii (Ino)
open Dm (Ent Has)
open Fs (flat View)
def CallAt (f : FuncId) (args : Nat → Array Value) (n I : Int) (V0 : View) (m : Fs.M Unit) : Prop := ∀ W B b s, Ctx W B b s n I → nv s = V0 → Calls Tryz.prog f (args B) W (Ends B b n I [] W s m KU)
def awE : List Ent := [(4, [99]), (3, [98]), (0, []), (0, [])]
theorem chain4 {m1 m2 m3 m4 : Fs.M Unit} {V0 V1 V2 V3 V4 : View} {L1 L2 L3 L4 : List Nat} (a1 : m1 V0 = (.ok (), V1, L1)) (a2 : m2 V1 = (.ok (), V2, L2)) (a3 : m3 V2 = (.ok (), V3, L3)) (a4 : m4 V3 = (.ok (), V4, L4)) :
    (Fs.andThen m1 fun _ => Fs.andThen m2 fun _ => Fs.andThen m3 fun _ => m4) V0 = (.ok (), V4, L1 ++ (L2 ++ (L3 ++ L4))) := by
  rw [Fs.andThen_ok a1, Fs.andThen_ok a2, Fs.andThen_ok a3, a4]
theorem awake_math {V0 : View} (h : Dm.Dr 60 4 V0 rootI 0 (fun _ => zeros) [] []) : ∃ m1 m2 m3 m4 V1 V2 V3 V4 L1 L2 L3 L4 x u P H,
    m1 V0 = (.ok (), V1, L1) ∧ m2 V1 = (.ok (), V2, L2) ∧ m3 V2 = (.ok (), V3, L3) ∧ m4 V3 = (.ok (), V4, L4) ∧
    CallAt 19 (fun B => #[.agg (dirL B 1).toArray, .string ⟨#[97]⟩, .int .i64 2]) 60 4 V0 m1 ∧
    CallAt 19 (fun B => #[.agg (dirL B 1).toArray, .string ⟨#[98]⟩, .int .i64 3]) 60 4 V1 m2 ∧
    CallAt 20 (fun B => #[.agg (dirL B 1).toArray, .string ⟨#[97]⟩]) 60 4 V2 m3 ∧
    CallAt 19 (fun B => #[.agg (dirL B 1).toArray, .string ⟨#[99]⟩, .int .i64 4]) 60 4 V3 m4 ∧
    Dm.Dr 60 4 V4 x u P awE H ∧ Fs.Cv (Fs.andThen m1 fun _ => Fs.andThen m2 fun _ => Fs.andThen m3 fun _ => m4) V0 34 := by
  have hD : Pl.dataN 4 = 45 := rfl
  obtain ⟨V1, L1, y1, u1, P1, a1, d1, l1, _⟩ := h.op (by decide) (by decide) 0 [97] 2 (by decide) (by decide) (by decide)
  have f1 := l1.few
  have e1 : Dm.nextE 0 [97] 2 [] = [(2, [97]), (0, []), (0, []), (0, [])] := rfl
  have k1 : Dm.nextH 0 [97] 2 [] = [([97], 2)] := rfl
  rw [e1, k1] at d1
  obtain ⟨V2, L2, y2, u2, P2, a2, d2, l2, _⟩ := d1.op (by rw [hD]; omega) (by decide) 0 [98] 3 (by decide) (by decide) (by decide)
  have f2 := l2.few
  have e2 : Dm.nextE 0 [98] 3 [(2, [97]), (0, []), (0, []), (0, [])] = [(2, [97]), (3, [98]), (0, []), (0, [])] := by decide
  have k2 : Dm.nextH 0 [98] 3 [([97], 2)] = [([97], 2), ([98], 3)] := by decide
  rw [e2, k2] at d2
  obtain ⟨V3, L3, y3, u3, P3, a3, d3, l3, _⟩ := d2.op (by rw [hD]; omega) (by decide) 2 [97] 1 (by decide) (by decide) (by decide)
  have f3 := l3.few
  have e3 : Dm.nextE 2 [97] 1 [(2, [97]), (3, [98]), (0, []), (0, [])] = [(0, []), (3, [98]), (0, []), (0, [])] := by decide
  have k3 : Dm.nextH 2 [97] 1 [([97], 2), ([98], 3)] = [([98], 3)] := by decide
  rw [e3, k3] at d3
  obtain ⟨V4, L4, y4, u4, P4, a4, d4, l4, _⟩ := d3.op (by rw [hD]; omega) (by decide) 0 [99] 4 (by decide) (by decide) (by decide)
  have f4 := l4.few
  have e4 : Dm.nextE 0 [99] 4 [(0, []), (3, [98]), (0, []), (0, [])] = awE := by decide
  rw [e4] at d4
  refine ⟨_, _, _, _, V1, V2, V3, V4, L1, L2, L3, L4, y4, u4, P4, _, a1, a2, a3, a4, ?_, ?_, ?_, ?_, d4, ?_⟩
  · intro W B b s hc hn
    exact add_op hc (by rw [hn]; exact h) [97] 2 (by decide) (by decide) (by decide)
  · intro W B b s hc hn
    exact add_op hc (by rw [hn]; exact d1) [98] 3 (by decide) (by decide) (by decide)
  · intro W B b s hc hn
    exact rem_op hc (by rw [hn]; exact d2) [97] 1 (by decide) (by decide)
  · intro W B b s hc hn
    exact add_op hc (by rw [hn]; exact d3) [99] 4 (by decide) (by decide) (by decide)
  · have hl := l1.app (l2.app (l3.app l4))
    have hm := chain4 a1 a2 a3 a4
    refine Fs.Cv.mono (Fs.Lw.cv (I := 4) (u := 0) (u' := u4) (c := 2 + (2 + (2 + 2))) ?_ (by decide)) (by omega)
    rw [hm]
    exact hl
theorem awake1_any {w : World} {B : Nat} {b : Blk} {s : Sto} (h : Ctx w B b s 60 4) (hof : ofE 4 1 (nv s) = 0) {m1 m2 m3 m4 : Fs.M Unit} {V0 V1 V2 V3 : View} {L1 L2 L3 : List Nat} (hv : nv s = V0) (a1 : m1 V0 = (.ok (), V1, L1)) (a2 : m2 V1 = (.ok (), V2, L2)) (a3 : m3 V2 = (.ok (), V3, L3))
    (c1 : CallAt 19 (fun B => #[.agg (dirL B 1).toArray, .string ⟨#[97]⟩, .int .i64 2]) 60 4 V0 m1)
    (c2 : CallAt 19 (fun B => #[.agg (dirL B 1).toArray, .string ⟨#[98]⟩, .int .i64 3]) 60 4 V1 m2)
    (c3 : CallAt 20 (fun B => #[.agg (dirL B 1).toArray, .string ⟨#[97]⟩]) 60 4 V2 m3)
    (c4 : CallAt 19 (fun B => #[.agg (dirL B 1).toArray, .string ⟨#[99]⟩, .int .i64 4]) 60 4 V3 m4) :
    Calls Tryz.prog 18 #[.pointer (some ⟨B, 0, none⟩)] w (Ends B b 60 4 [] w s (Fs.andThen m1 fun _ => Fs.andThen m2 fun _ => Fs.andThen m3 fun _ => m4) KU) := by
  refine calls_of fun R H0 => ?_
  have S := Lib.hid (Stp.start h (by simp) H0)
  have HOF := Lib.hid (of_yes h 1 hof)
  have A1 := Lib.hid (show ∀ (s' : Sto) (a : Unit) (L : List Nat), m1 (nv s) = (.ok a, nv s', L) → nv s' = V1 from fun s' a L e => by rw [hv, a1] at e; injection e with _ e; injection e with e _; exact e.symm)
  have A2 := Lib.hid (show ∀ (s s' : Sto) (a : Unit) (L : List Nat), nv s = V1 → m2 (nv s) = (.ok a, nv s', L) → nv s' = V2 from fun s s' a L hv e => by rw [hv, a2] at e; injection e with _ e; injection e with e _; exact e.symm)
  have A3 := Lib.hid (show ∀ (s s' : Sto) (a : Unit) (L : List Nat), nv s = V2 → m3 (nv s) = (.ok a, nv s', L) → nv s' = V3 from fun s s' a L hv e => by rw [hv, a3] at e; injection e with _ e; injection e with e _; exact e.symm)
  have C1 := Lib.hid (fun W (hc : Ctx W B b s 60 4) => c1 W B b s hc hv)
  have C2 := Lib.hid (fun W s' (hc : Ctx W B b s' 60 4) (hv : nv s' = V1) => c2 W B b s' hc hv)
  have C3 := Lib.hid (fun W s' (hc : Ctx W B b s' 60 4) (hv : nv s' = V2) => c3 W B b s' hc hv)
  have C4 := Lib.hid (fun W s' (hc : Ctx W B b s' 60 4) (hv : nv s' = V3) => c4 W B b s' hc hv)
  clear h hof hv a1 a2 a3 c1 c2 c3 c4 H0
  go_enter Tryz.func18, Tryz.ntmps18
  go_wp2_with (first
    | (go_at_call 16; refine HOF.out.mono ?_; rintro e w1 ⟨rfl, hb⟩; replace S := Lib.hid (S.out.below hb); clear hb)
    | ((with_reducible refine wpList_store_newrow (vs := dirL B 1) dirT ?_ (dirL_one _ _) rfl (.tmp 2) (.tmp 4) rfl rfl ?_ ?_ ?_); (exact rfl); (exact rfl); (exact rfl); intro W4 hP hB2 hz2; replace S := Lib.hid (S.out.made hP hB2 hz2); clear hP hB2 hz2)
    | (with_reducible refine wpList_load_rw dirT (S.out.get 0 _ rfl) rfl rfl (.tmp 2) rfl rfl ?_))
  refine (C1.out _ S.out.ctx).mono ?_
  intro e w2 hE
  rcases S.out.bind hE with ⟨rfl, hR⟩ | ⟨_, s1, L1, E1, rfl, S2⟩
  · exact ⟨rfl, hR⟩
  have N1 := Lib.hid (A1.out _ _ _ E1)
  clear hE S E1
  have S := Lib.hid S2
  clear S2
  go_wp2_with (with_reducible refine wpList_load_rw dirT (S.out.get 0 _ rfl) rfl rfl (.tmp 2) rfl rfl ?_)
  refine (C2.out _ _ S.out.ctx N1.out).mono ?_
  intro e w3 hE
  rcases S.out.bind hE with ⟨rfl, hR⟩ | ⟨_, s2, L2, E2, rfl, S2⟩
  · exact ⟨rfl, hR⟩
  have N2 := Lib.hid (A2.out _ _ _ _ N1.out E2)
  clear hE S E2
  have S := Lib.hid S2
  clear S2
  go_wp2_with (with_reducible refine wpList_load_rw dirT (S.out.get 0 _ rfl) rfl rfl (.tmp 2) rfl rfl ?_)
  refine (C3.out _ _ S.out.ctx N2.out).mono ?_
  intro e w4 hE
  rcases S.out.bind hE with ⟨rfl, hR⟩ | ⟨_, s3, L3, E3, rfl, S2⟩
  · exact ⟨rfl, hR⟩
  have N3 := Lib.hid (A3.out _ _ _ _ N2.out E3)
  clear hE S E3
  have S := Lib.hid S2
  clear S2
  go_wp2_with (with_reducible refine wpList_load_rw dirT (S.out.get 0 _ rfl) rfl rfl (.tmp 2) rfl rfl ?_)
  refine (C4.out _ _ S.out.ctx N3.out).mono ?_
  intro e w5 hE
  rcases S.out.last hE with ⟨rfl, hR⟩ | ⟨_, s4, L4, _, rfl, S2⟩
  · exact ⟨rfl, hR⟩
  clear hE S
  have S := Lib.hid S2
  clear S2
  go_wp2_with fail
  go_end0
  exact S.out.done rfl
end

section
open Go.RowKit Go.Maps
open Dk (zeros zeros_length)
open Ii (Ino)
open Dm (Ent Has)
open Fs (flat View)
def AwS (w : World) (V : Nat) (b : Blk) (k : Nat) : Prop := ∃ s x u P H, VolAt w V b s 60 4 0 ∧ Calm s 60 4 k ∧ Dm.Dr 60 4 (nv s) x u P awE H
theorem awake_do {W : World} {V : Nat} {b : Blk} {s : Sto} (hv : VolAt W V b s 60 4 0) (hs : FmtS s 60 4) :
    Calls Tryz.prog 11 #[.pointer (some ⟨V, 0, none⟩), .func (.func 18) #[] #[]] W fun e w' => e = .returned (.int .i64 0) ∧ AwS w' V b 1 ∧ Only (V :: b.all) W w' := by
  have hd := root_dir hs pl60
  obtain ⟨m1, m2, m3, m4, V1, V2, V3, V4, L1, L2, L3, L4, x, u, P, H, a1, a2, a3, a4, c1, c2, c3, c4, d4, hcv⟩ := awake_math hd
  refine (do_any hv (hs.vs pl60) (by rw [hs.q.1]; decide) [] (fun j hj => absurd hj List.not_mem_nil) (Fs.andThen m1 fun _ => Fs.andThen m2 fun _ => Fs.andThen m3 fun _ => m4) (fun _ _ => True) (fun _ => True) (fun _ _ _ _ _ _ _ _ => trivial) (fun _ _ _ _ _ _ _ => trivial) 18 #[] (fun args W => by simp [go_sem]) (fun B w1 hB hcx ho => ?_)).mono ?_
  · exact (awake1_any hcx (ofE_dir hd) rfl a1 a2 a3 c1 c2 c3 c4).mono fun e w' hh => ends_cb hh
  · rintro e w' ⟨hst, hO⟩
    obtain ⟨er, s2, a, hto, rfl, HV, _⟩ := hst.to
    obtain ⟨hc2, hr⟩ := (hs.calm pl60).pureLong (by decide) hcv hto
    have hm := chain4 a1 a2 a3 a4
    rcases hr with ⟨x', V', L', e1, rfl, _, hout⟩ | ⟨V', L', e1, _⟩
    · rw [hm] at e1
      injection e1 with _ q
      injection q with q _
      subst q
      exact ⟨rfl, ⟨s2, x, u, P, H, HV, hc2, d4.out hout⟩, hO.mono (fun i hi => by simpa using hi)⟩
    · rw [hm] at e1
      injection e1 with q
      cases q
theorem aw_cells {w : World} {A : Option Addr} (h : EntRow w A (Dm.live awE).length (Dm.live awE)) : ∃ g o, A = some ⟨g, o, none⟩ ∧ w.cell? ⟨g, o + 1, none⟩ = some (.string ⟨#[99]⟩) ∧ w.cell? ⟨g, o + 2 + 1, none⟩ = some (.string ⟨#[98]⟩) := by
  obtain ⟨g, o, rfl, _, hc⟩ := h.cells (by decide)
  refine ⟨g, o, rfl, ?_, ?_⟩
  · exact hc 0 (4, [99]) rfl 1 _ rfl
  · exact hc 1 (3, [98]) rfl 1 _ rfl
theorem awake_any (w : World) : Calls Tryz.prog 5 #[] w fun e w' => e = .returned (.bool true) ∧ Below w.heap.size w w' := by
  have HF := Lib.hid (lawFresh_any w 60 4 pl60)
  have HD := Lib.hid (fun W V b s (hv : VolAt W V b s 60 4 0) (hs : FmtS s 60 4) => awake_do hv hs)
  have HA : Hid (∀ W V b, AwS W V b 1 → Calls Tryz.prog 10 #[.pointer (some ⟨V, 0, none⟩), .int .i64 1] W fun e w' => ∃ g o c, e = .returned (.tuple #[.slice (some ⟨g, o, none⟩) 2 c, .int .i64 0]) ∧ w'.cell? ⟨g, o + 1, none⟩ = some (.string ⟨#[99]⟩) ∧ w'.cell? ⟨g, o + 2 + 1, none⟩ = some (.string ⟨#[98]⟩) ∧ Only (V :: b.all) W w') := Lib.hid (fun W V b ⟨s, x, u, P, H, h1, h2, h3⟩ => by
    refine (vall_ok h1 h2 (by decide) h3).mono ?_
    rintro e w' ⟨A, c, e1, e2, _, e3⟩
    obtain ⟨g, o, rfl, q1, q2⟩ := aw_cells e2
    exact ⟨g, o, c, e1, q1, q2, e3⟩)
  go_enter Tryz.func5, Tryz.ntmps5
  go_wp2_with fail
  refine HF.out.mono ?_
  rintro e w1 ⟨V, b, s, rfl, hv, hs, hb, hV, hbb⟩
  have HB := Lib.hid hb
  have HG : Hid (∀ k ∈ V :: b.all, w.heap.size ≤ k) := Lib.hid (fun k hk => by
    rcases List.mem_cons.1 hk with rfl | hk
    · exact hV
    · exact hbb k hk)
  have HD1 := Lib.hid (HD.out _ _ _ _ hv hs)
  clear hv hs hb hV hbb
  go_wp2_with fail
  refine HD1.out.mono ?_
  rintro e w2 ⟨rfl, hA, hO⟩
  have HA2 := Lib.hid (HA.out _ _ _ hA)
  have HB2 := Lib.hid (HB.out.trans (Only.toBelow hO HB.out.size HG.out))
  clear hA hO
  go_wp2_with fail
  refine HA2.out.mono ?_
  rintro e w3 ⟨g, o, c, rfl, q1, q2, hO⟩
  have HB3 := Lib.hid (HB2.out.trans (Only.toBelow hO HB2.out.size HG.out))
  clear hO
  go_wp2_with fail
  go_ret
  exact ⟨rfl, HB3.out⟩
end

section
open Go.RowKit Go.Maps
open Dk (zeros zeros_length)
open Ii (Ino)
open Dm (Ent Has)
open Fs (flat)
section
variable {w : World} {B : Nat} {b : Blk} {s : Sto} {n I : Int} {x : Ino} {u : Nat} {P : Nat → List UInt8} {E : List Ent} {H : Has}
def FdS (w : World) (Y : Nat) (_ : Unit) (W : World) : Prop := Only [Y] w W ∧ RowAt W Y [.int .i64 0]
theorem FdS.below {Y : Nat} {k : Unit} {W W' : World} (h : FdS w Y k W) (hb : Below W.heap.size W W') : FdS w Y k W' := ⟨h.1.trans (Only.below hb), h.2.step hb⟩
theorem FdS.set {Y : Nat} {k : Unit} {W : World} (h : FdS w Y k W) : FdS w Y () (W.setCell ⟨Y, 0, none⟩ (.int .i64 0)) :=
  ⟨h.1.setCell (p := ⟨Y, 0, none⟩) (by simp) _, RowAt.setOne h.2 0 (.int .i64 0) (show 0 < 1 by decide)⟩
theorem FdS.start {Y : Nat} (hY : RowAt w Y [.int .i64 0]) : FdS w Y () w.drew := ⟨Only.below (Below.refl _ _).drew, hY.step (Below.refl _ _).drew⟩
theorem find1_ok (h : Ctx w B b s n I) (hd : Dm.Dr n I (nv s) x u P E H) (t : List UInt8) (hk : Dm.spot E t = none) (X Z Y : Nat) (hX : RowAt w X [.int .i64 1]) (hZ : RowAt w Z [.string (strOf t)]) (hY : RowAt w Y [.int .i64 0]) (hYB : Y ≠ B) (hYb : Y ∉ b.all) (hXY : X ≠ Y) (hZY : Z ≠ Y) :
    Calls Tryz.prog 43 #[.pointer (some ⟨B, 0, none⟩), .pointer (some ⟨X, 0, none⟩), .pointer (some ⟨Z, 0, none⟩), .pointer (some ⟨Y, 0, none⟩)] w (Cb B b n I [Y] w s (Fs.ret ()) (fun _ W => RowAt W Y [.int .i64 0]) (fun _ => True)) := by
  refine calls_of fun R H0 => ?_
  have HC : Hid (∀ W, FdS w Y () W → Ctx W B b s n I) := Lib.hid (fun W hS => h.only hS.1 (by simpa using fun q => hYB q.symm) (fun k hk q => hYb (by rw [List.mem_singleton] at q; exact q ▸ hk)))
  have HX : Hid (∀ W, FdS w Y () W → RowAt W X [.int .i64 1]) := Lib.hid (fun W hS => hX.only hS.1 (by simpa using hXY))
  have HZ : Hid (∀ W, FdS w Y () W → RowAt W Z [.string (strOf t)]) := Lib.hid (fun W hS => hZ.only hS.1 (by simpa using hZY))
  have HOF : Hid (∀ W, Ctx W B b s n I → Calls Tryz.prog 16 #[.pointer (some ⟨B, 0, none⟩), .int .i64 1] W fun e w' => e = .returned (dirV B 1) ∧ Below W.heap.size W w') := Lib.hid (fun W hc => of_yes hc 1 (ofE_dir hd))
  have HFD := Lib.hid (fun W (hc : Ctx W B b s n I) => dfind_none hc hd t hk)
  have HS := Lib.hid (FdS.start hY)
  clear h hd hk hX hZ hY
  go_enter Tryz.func43, Tryz.ntmps43
  go_wp2_with fail
  refine wp_region_linp (FdS w Y) (fun _ _ => False) (fun ix => ix == 5) (fun ix => [.pointer (some ⟨B, 0, none⟩), .int .i64 1, dirV B 1, .string (strOf t), .int .i64 0].getD ix undef) () (by kernel_rfl) (by kernel_rfl) (fun ch a' W hd hh => hh.elim) HS.out ?_
  refine linp_step (i := 0) (d := some 5) (v := (.pointer (some ⟨B, 0, none⟩))) rfl rfl (by kernel_rfl) (by kernel_rfl) rfl rfl (ord_value (by kernel_rfl) ?_) ?_
  · ((intro _ _ _; go_simp) <;> kernel_rfl)
  try simp only [Act.put, puA, puB, puC]
  refine linp_step (i := 1) (d := some 6) (v := (.int .i64 1)) rfl rfl (by kernel_rfl) (by kernel_rfl) rfl rfl (ord_value (by kernel_rfl) ?_) ?_
  · (intro sZ wZ hZ; have cZ := (fun k W hS => (HX.out W hS).cell 0 _ rfl) sZ wZ hZ; go_simp)
  try simp only [Act.put, puA, puB, puC]
  refine linp_step (i := 2) (d := some 7) (v := (dirV B 1)) rfl rfl (by kernel_rfl) (by kernel_rfl) rfl rfl (ord_call (f := 16) (args := #[.pointer (some ⟨B, 0, none⟩), .int .i64 1]) (by kernel_rfl) ?_ (fun k W hS => (HOF.out W (HC.out W hS)).mono fun e w' hh => ⟨hh.1, FdS.below hS hh.2⟩)) ?_
  · (intro _; go_simp)
  try simp only [Act.put, puA, puB, puC]
  refine linp_step (i := 3) (d := some 8) (v := (.string (strOf t))) rfl rfl (by kernel_rfl) (by kernel_rfl) rfl rfl (ord_value (by kernel_rfl) ?_) ?_
  · (intro sZ wZ hZ; have cZ := (fun k W hS => (HZ.out W hS).cell 0 _ rfl) sZ wZ hZ; go_simp)
  try simp only [Act.put, puA, puB, puC]
  refine linp_step (i := 4) (d := some 9) (v := (.int .i64 0)) rfl rfl (by kernel_rfl) (by kernel_rfl) rfl rfl (ord_call (f := 44) (args := #[dirV B 1, .string (strOf t)]) (by kernel_rfl) ?_ (fun k W hS => (HFD.out W (HC.out W hS)).mono fun e w' hh => ⟨hh.1, FdS.below hS hh.2⟩)) ?_
  · (intro _; go_simp)
  try simp only [Act.put, puA, puB, puC]
  refine linp_store (i := 5) () rfl rfl (by kernel_rfl) (by kernel_rfl) rfl (by kernel_rfl) (by kernel_rfl) (fun W hS => gives_store_cell hS.2 (show 0 < 1 by decide) (.tmp 3) (.tmp 9) rfl rfl rfl ⟨rfl, FdS.set hS⟩) ?_
  try simp only [Act.put, puA, puB, puC]
  refine linp_done (by kernel_rfl) fun W hS => ?_
  go_wp2_with fail
  go_end0
  exact H0.out _ _ (Or.inl ⟨(), s, [], rfl, Goes.refl s, HC.out W hS, rfl, hS.2, hS.1.mono (by simp)⟩)
def FnS (w : World) : Bool → World → Prop
  | true, _ => False
  | false, W => Below w.heap.size w W
theorem FnS.bel : ∀ {k : Bool} {W : World}, FnS w k W → Below w.heap.size w W
  | true, _, h => False.elim h
  | false, _, h => h
theorem FnS.start {W : World} (h : FnS w false W) : Below w.heap.size w W := h
theorem find1_no (h : Ctx w B b s n I) (i er : Int) (hx : ofE I i (nv s) = er) (h0 : er ≠ 0) (t : List UInt8) (X Z Y : Nat) (hX : RowAt w X [.int .i64 i]) (hZ : RowAt w Z [.string (strOf t)]) (Q : Unit → World → Prop) :
    Calls Tryz.prog 43 #[.pointer (some ⟨B, 0, none⟩), .pointer (some ⟨X, 0, none⟩), .pointer (some ⟨Z, 0, none⟩), .pointer (some ⟨Y, 0, none⟩)] w (Cb B b n I [Y] w s (Fs.fail er) Q (fun _ => True)) := by
  refine calls_of fun R H0 => ?_
  have HOF : Hid (∀ W, Below w.heap.size w W → Calls Tryz.prog 16 #[.pointer (some ⟨B, 0, none⟩), .int .i64 i] W fun e w' => e = .panicked [failE B] ∧ R (.panicked [failE B]) w') := Lib.hid (fun W hb => (of_no (h.below hb) i er hx h0).mono fun e w' hh => ⟨hh.1, H0.out _ _ (Or.inr ⟨er, Or.inl ⟨_, _, rfl⟩, h0, hh.2.1, rfl, trivial, ((show Only [B] w W from Only.below hb).trans hh.2.2).mono (by simp)⟩)⟩)
  have HX : Hid (∀ W, Below w.heap.size w W → RowAt W X [.int .i64 i]) := Lib.hid (fun W hb => hX.step hb)
  have HZ : Hid (∀ W, Below w.heap.size w W → RowAt W Z [.string (strOf t)]) := Lib.hid (fun W hb => hZ.step hb)
  have HS : Hid (FnS w false w.drew) := Lib.hid (Below.refl _ _).drew
  clear h hx hX hZ H0
  go_enter Tryz.func43, Tryz.ntmps43
  go_wp2_with fail
  refine wp_region_linp (FnS w) (fun ch W => ch = [failE B] ∧ R (.panicked [failE B]) W) (fun ix => ix == 2 || ix == 4 || ix == 5) (fun ix => [.pointer (some ⟨B, 0, none⟩), .int .i64 i, undef, .string (strOf t)].getD ix undef) false (by kernel_rfl) (by kernel_rfl) (fun ch a' W hd hh => ?_) HS.out ?_
  · exact ⟨hd, by obtain ⟨rfl, hR⟩ := hh; exact hR⟩
  refine linp_step (i := 0) (d := some 5) (v := (.pointer (some ⟨B, 0, none⟩))) rfl rfl (by kernel_rfl) (by kernel_rfl) rfl rfl (ord_value (by kernel_rfl) ?_) ?_
  · ((intro _ _ _; go_simp) <;> kernel_rfl)
  try simp only [Act.put, puA, puB, puC]
  refine linp_step (i := 1) (d := some 6) (v := (.int .i64 i)) rfl rfl (by kernel_rfl) (by kernel_rfl) rfl rfl (ord_value (by kernel_rfl) ?_) ?_
  · (intro sZ wZ hZ; have cZ := (fun k W hS => (HX.out W (FnS.bel hS)).cell 0 _ rfl) sZ wZ hZ; go_simp)
  try simp only [Act.put, puA, puB, puC]
  refine linp_step (i := 3) (d := some 8) (v := (.string (strOf t))) rfl rfl (by kernel_rfl) (by kernel_rfl) rfl rfl (ord_value (by kernel_rfl) ?_) ?_
  · (intro sZ wZ hZ; have cZ := (fun k W hS => (HZ.out W (FnS.bel hS)).cell 0 _ rfl) sZ wZ hZ; go_simp)
  try simp only [Act.put, puA, puB, puC]
  refine linp_turn (i := 2) (d := some 7) (fun u k => u = .int .i64 0 ∧ k = true) rfl rfl (by kernel_rfl) (by kernel_rfl) rfl (by kernel_rfl) ⟨_, _, rfl, rfl⟩ (by kernel_rfl) (gives_all (f := 16) (args := #[.pointer (some ⟨B, 0, none⟩), .int .i64 i]) ?_ (fun W hS => (HOF.out W (FnS.start hS)).mono fun e w' hh => Or.inr ⟨_, hh.1, rfl, hh.2⟩)) ?_
  · (intro _; go_simp)
  rintro _ _ ⟨rfl, rfl⟩
  try simp only [Act.put, puA, puB, puC]
  refine linp_turn (i := 4) (d := some 9) (fun u k => u = .int .i64 0 ∧ k = true) rfl rfl (by kernel_rfl) (by kernel_rfl) rfl (by kernel_rfl) ⟨_, _, rfl, rfl⟩ (by kernel_rfl) (fun W hS => False.elim hS) ?_
  rintro _ _ ⟨rfl, rfl⟩
  try simp only [Act.put, puA, puB, puC]
  refine linp_store (i := 5) true rfl rfl (by kernel_rfl) (by kernel_rfl) rfl (by kernel_rfl) (by kernel_rfl) (fun W hS => False.elim hS) ?_
  try simp only [Act.put, puA, puB, puC]
  exact linp_done (by kernel_rfl) fun W hS => False.elim hS
theorem emp2_ok (h : Ctx w B b s n I) (hd : Dm.Dr n I (nv s) x u P E H) (hl : Dm.live E = []) (X Y : Nat) (hX : RowAt w X [.int .i64 1]) (hY : RowAt w Y [.bool false]) (hYB : Y ≠ B) (hYb : Y ∉ b.all) :
    Calls Tryz.prog 15 #[.pointer (some ⟨B, 0, none⟩), .pointer (some ⟨X, 0, none⟩), .pointer (some ⟨Y, 0, none⟩)] w (Cb B b n I [Y] w s (Fs.ret ()) (fun _ W => RowAt W Y [.bool true]) (fun W => RowAt W Y [.bool false])) := by
  have HC := Lib.hid h
  have HY := Lib.hid hY
  have HOF : Hid (∀ W, Ctx W B b s n I → Calls Tryz.prog 16 #[.pointer (some ⟨B, 0, none⟩), .int .i64 1] W fun e w' => e = .returned (dirV B 1) ∧ Below W.heap.size W w') := Lib.hid (fun W hc => of_yes hc 1 (ofE_dir hd))
  have HAL := Lib.hid (fun W (hc : Ctx W B b s n I) => dempty_yes hc hd hl)
  have cX := hX.cell 0 _ rfl
  clear h hd hX hY hl
  go_enter Tryz.func15, Tryz.ntmps15
  go_wp2_with (first
    | (go_at_call 16; refine (HOF.out _ HC.out).mono ?_; rintro e w1 ⟨rfl, hb⟩; have HC1 := Lib.hid (HC.out.below hb); have HB1 := Lib.hid hb; clear hb)
    | (go_at_call 17; refine (HAL.out _ HC1.out).mono ?_; rintro e w2 ⟨rfl, hb⟩; have HC2 := Lib.hid (HC1.out.below hb); have HB2 := Lib.hid (HB1.out.trans (hb.mono HB1.out.size)); have HY2 := Lib.hid (HY.out.step HB2.out); have cY := HY2.out.cell 0 _ rfl; have fY := HY2.out.frozen 0 (show 0 < 1 by decide); clear hb))
  go_end0
  obtain ⟨p1, p2, p3⟩ := put_cell HC2.out HY2.out hYB hYb (.bool true)
  exact Or.inl ⟨(), s, [], rfl, Goes.refl s, p1, rfl, p2, ((show Only (b.t :: [Y]) w w2 from Only.below HB2.out)).trans (p3.mono (by simp))⟩
theorem emp2_no (h : Ctx w B b s n I) (i er : Int) (hx : ofE I i (nv s) = er) (h0 : er ≠ 0) (X Y : Nat) (hX : RowAt w X [.int .i64 i]) (hY : RowAt w Y [.bool false]) (hYB : Y ≠ B) (Q : Unit → World → Prop) :
    Calls Tryz.prog 15 #[.pointer (some ⟨B, 0, none⟩), .pointer (some ⟨X, 0, none⟩), .pointer (some ⟨Y, 0, none⟩)] w (Cb B b n I [Y] w s (Fs.fail er) Q (fun W => RowAt W Y [.bool false])) := by
  have HOF := Lib.hid (of_no h i er hx h0)
  have HY := Lib.hid hY
  have cX := hX.cell 0 _ rfl
  clear h hx hX hY
  go_enter Tryz.func15, Tryz.ntmps15
  go_wp2_with (go_at_call 16; refine HOF.out.mono ?_; rintro e w1 ⟨rfl, hR, hO⟩)
  exact ⟨rfl, Or.inr ⟨er, Or.inl ⟨_, _, rfl⟩, h0, hR, rfl, HY.out.only hO (by simpa using hYB), hO.mono (by simp)⟩⟩
end
section
variable {w : World} {V : Nat} {b : Blk} {s : Sto} {n I : Int} {k : Nat} {x : Ino} {u : Nat} {P : Nat → List UInt8} {E : List Ent} {H : Has}
def fdl (w : World) (i : Int) (t : List UInt8) : List (Nat × List Value) := [(w.heap.size, [.int .i64 i]), (w.heap.size + 1, [.string (strOf t)]), (w.heap.size + 2, [.int .i64 0])]
theorem vfind_box (w : World) (i : Int) (t : List UInt8) : Lo [] w (fdl w i t) (((w.alloc (.cells #[.int .i64 i] 3)).alloc (.cells #[.string (strOf t)] 9)).alloc (.cells #[.int .i64 0] 3)) :=
  (((Lo.start (L := []) w (by simp)).alloc _ rfl [.int .i64 i] _).alloc (w.heap.size + 1) (by simp) [.string (strOf t)] _).alloc (w.heap.size + 2) (by simp) [.int .i64 0] _
def vfindP (w : World) (V : Nat) (b : Blk) (s : Sto) (n I : Int) (k : Nat) (er : Int) (i : Int) (t : List UInt8) : Prop := ∀ W, Lo [] w (fdl w i t) W → Calls Tryz.prog 11 #[.pointer (some ⟨V, 0, none⟩), .func (.func 43) #[] #[.pointer (some ⟨w.heap.size, 0, none⟩), .pointer (some ⟨w.heap.size + 1, 0, none⟩), .pointer (some ⟨w.heap.size + 2, 0, none⟩)]] W fun e w' => e = .returned (.int .i64 er) ∧ (er = 0 → RowAt w' (w.heap.size + 2) [.int .i64 0]) ∧ Rested w' V b s n I (k + 1) ∧ Only (V :: b.all) w w'
theorem vfind_do (h : VolAt w V b s n I 0) (hc : Calm s n I k) (hk : k ≤ 1000000) (hd : Dm.Dr n I (nv s) x u P E H) (t : List UInt8) (hs : Dm.spot E t = none) : vfindP w V b s n I k 0 1 t := by
  intro W hl
  have hv : VolAt W V b s n I 0 := h.below hl.bel
  obtain ⟨f1, f2⟩ := h.fresh (W := W) (show w.heap.size ≤ w.heap.size + 2 by omega)
  obtain ⟨g1, g2⟩ := h.fresh (W := W) (Nat.le_refl w.heap.size)
  obtain ⟨k1, k2⟩ := h.fresh (W := W) (show w.heap.size ≤ w.heap.size + 1 by omega)
  have hlt : w.heap.size + 2 < W.heap.size := hl.lt 2 _ rfl
  refine (do_any hv hc.vs (by have := hc.q; omega) [w.heap.size + 2] (fun j hj => by rw [List.mem_singleton] at hj; subst hj; exact ⟨hlt, f1, f2⟩) (Fs.ret ()) (fun _ W => RowAt W (w.heap.size + 2) [.int .i64 0]) (fun _ => True) (fun _ => stable_row _ _ _ hlt) (fun _ _ _ _ _ _ _ => trivial) 43 #[.pointer (some ⟨w.heap.size, 0, none⟩), .pointer (some ⟨w.heap.size + 1, 0, none⟩), .pointer (some ⟨w.heap.size + 2, 0, none⟩)] (fun args W => by simp [go_sem]) (fun B w1 hB hcx ho => ?_)).mono ?_
  · exact find1_ok hcx hd t hs _ _ _ ((hl.get 0 _ rfl).only ho (by simpa using g1)) ((hl.get 1 _ rfl).only ho (by simpa using k1)) ((hl.get 2 _ rfl).only ho (by simpa using f1)) (by intro q; have : w.heap.size + 2 < W.heap.size := hlt; omega) f2 (by show w.heap.size ≠ w.heap.size + 2; omega) (by show w.heap.size + 1 ≠ w.heap.size + 2; omega)
  · rintro e w' ⟨hst, hO⟩
    obtain ⟨e1, e2, e3⟩ := read_ok hc hk hst
    exact ⟨e1, fun _ => e3, e2, only_back hl.bel hO (fun i hi => by
      rcases List.mem_cons.1 hi with rfl | hi
      · exact Or.inl (List.mem_cons_self ..)
      · rcases List.mem_append.1 hi with hi | hi
        · exact Or.inl (List.mem_cons_of_mem _ hi)
        · rw [List.mem_singleton] at hi; right; omega)⟩
theorem vfind_don (h : VolAt w V b s n I 0) (hc : Calm s n I k) (hk : k ≤ 1000000) (i er : Int) (hx : ofE I i (nv s) = er) (h0 : er ≠ 0) (t : List UInt8) : vfindP w V b s n I k er i t := by
  intro W hl
  have hv : VolAt W V b s n I 0 := h.below hl.bel
  obtain ⟨f1, f2⟩ := h.fresh (W := W) (show w.heap.size ≤ w.heap.size + 2 by omega)
  obtain ⟨g1, g2⟩ := h.fresh (W := W) (Nat.le_refl w.heap.size)
  obtain ⟨k1, k2⟩ := h.fresh (W := W) (show w.heap.size ≤ w.heap.size + 1 by omega)
  have hlt : w.heap.size + 2 < W.heap.size := hl.lt 2 _ rfl
  refine (do_any hv hc.vs (by have := hc.q; omega) [w.heap.size + 2] (fun j hj => by rw [List.mem_singleton] at hj; subst hj; exact ⟨hlt, f1, f2⟩) (Fs.fail er : Fs.M Unit) (fun _ _ => True) (fun _ => True) (fun _ _ _ _ _ _ _ _ => trivial) (fun _ _ _ _ _ _ _ => trivial) 43 #[.pointer (some ⟨w.heap.size, 0, none⟩), .pointer (some ⟨w.heap.size + 1, 0, none⟩), .pointer (some ⟨w.heap.size + 2, 0, none⟩)] (fun args W => by simp [go_sem]) (fun B w1 hB hcx ho => ?_)).mono ?_
  · exact find1_no hcx i er hx h0 t _ _ _ ((hl.get 0 _ rfl).only ho (by simpa using g1)) ((hl.get 1 _ rfl).only ho (by simpa using k1)) _
  · rintro e w' ⟨hst, hO⟩
    obtain ⟨e1, e2, _⟩ := read_no hc hk hst
    exact ⟨e1, fun q => absurd q h0, e2, only_back hl.bel hO (fun i hi => by
      rcases List.mem_cons.1 hi with rfl | hi
      · exact Or.inl (List.mem_cons_self ..)
      · rcases List.mem_append.1 hi with hi | hi
        · exact Or.inl (List.mem_cons_of_mem _ hi)
        · rw [List.mem_singleton] at hi; right; omega)⟩
theorem vfind_any (er i : Int) (t : List UInt8) (h : vfindP w V b s n I k er i t) :
    Calls Tryz.prog 14 #[.pointer (some ⟨V, 0, none⟩), .int .i64 i, .string (strOf t)] w fun e w' => e = .returned (.tuple #[.int .i64 0, .int .i64 er]) ∧ Rested w' V b s n I (k + 1) ∧ Only (V :: b.all) w w' := by
  have hmf : ∀ (fn : Fn) (first cap : Array Value) (w : World), (Instr.makeFunc fn first cap).run Tryz.prog w = .ok (.func fn first cap) w := fun _ _ _ _ => rfl
  have S := Lib.hid (vfind_box w i t)
  have HDO := Lib.hid h
  clear h
  unfold vfindP at HDO
  by_cases c : er = 0
  · subst c
    go_enter Tryz.func14, Tryz.ntmps14
    go_wp2_with (go_at_call 11; refine (HDO.out _ S.out).mono ?_; rintro e w2 ⟨rfl, hY, hR, hO⟩; have cY := (hY rfl).cell 0 _ rfl)
    go_ret2
    exact ⟨rfl, hR, hO⟩
  · have g0 : (er != 0) = true := by simpa using c
    clear c
    go_enter Tryz.func14, Tryz.ntmps14
    go_wp2_with (go_at_call 11; refine (HDO.out _ S.out).mono ?_; rintro e w2 ⟨rfl, hY, hR, hO⟩)
    go_ret2
    exact ⟨rfl, hR, hO⟩
end
theorem str_of (a : ByteArray) : ∃ t, a = strOf t := ⟨a.data.toList, by unfold strOf; simp⟩
theorem find_spec : FindSpec := by
  rintro W V b k ino name ⟨s, hv, hc, ht⟩ hk hn
  obtain ⟨t, rfl⟩ := str_of name
  have hof := ofE_two ht ino
  have h1 : vfindP W V b s 60 4 k (wantN ino) ino t := by
    by_cases c : ino = 1
    · subst c
      exact vfind_do hv hc (by omega) ht.dir t rfl
    · have h0 : wantN ino ≠ 0 := by unfold wantN; rw [if_neg c]; split <;> decide
      exact vfind_don hv hc (by omega) ino _ hof h0 t
  refine (vfind_any _ _ t h1).mono ?_
  rintro e w' ⟨e1, e3, e6⟩
  exact ⟨e1, TW.rest (w := W) ht e3, e6⟩
theorem empty_spec : EmptySpec := by
  rintro W V b k ino X Y ⟨s, hv, hc, ht⟩ hk hX hY nX nY
  have hof := ofE_two ht ino
  have hYV : Y ≠ V := fun q => nY (q ▸ List.mem_cons_self ..)
  have hYb : Y ∉ b.all := fun q => nY (List.mem_cons_of_mem _ q)
  have hXV : X ≠ V := fun q => nX (q ▸ List.mem_cons_self ..)
  have hL : ∀ j ∈ [Y], j < W.heap.size ∧ j ≠ V ∧ j ∉ b.all := fun j hj => by rw [List.mem_singleton] at hj; subst hj; exact ⟨hY.lt, hYV, hYb⟩
  have hO2 : ∀ w', Only (V :: (b.all ++ [Y])) W w' → Only (Y :: V :: b.all) W w' := fun w' ho => ho.mono (fun i hi => by
    rcases List.mem_cons.1 hi with rfl | hi
    · simp
    · rcases List.mem_append.1 hi with hi | hi
      · exact List.mem_cons_of_mem _ (List.mem_cons_of_mem _ hi)
      · rw [List.mem_singleton] at hi; rw [hi]; simp)
  by_cases c : ino = 1
  · subst c
    refine (do_any hv hc.vs (by have := hc.q; omega) [Y] hL (Fs.ret ()) (fun _ W => RowAt W Y [.bool true]) (fun W => RowAt W Y [.bool false]) (fun _ => stable_row _ _ _ hY.lt) (stable_row _ _ _ hY.lt) 15 #[.pointer (some ⟨X, 0, none⟩), .pointer (some ⟨Y, 0, none⟩)] (fun args W => by simp [go_sem]) (fun B w1 hB hcx ho => ?_)).mono ?_
    · exact emp2_ok hcx ht.dir rfl _ _ (hX.only ho (by simpa using hXV)) (hY.only ho (by simpa using hYV)) (by have := hY.lt; omega) hYb
    · rintro e w' ⟨hst, hO⟩
      obtain ⟨e1, _, e3⟩ := read_ok hc (by omega) hst
      exact ⟨e1, e3, hO2 _ hO⟩
  · have h0 : wantN ino ≠ 0 := by unfold wantN; rw [if_neg c]; split <;> decide
    refine (do_any hv hc.vs (by have := hc.q; omega) [Y] hL (Fs.fail (wantN ino) : Fs.M Unit) (fun _ W => RowAt W Y [.bool true]) (fun W => RowAt W Y [.bool false]) (fun _ => stable_row _ _ _ hY.lt) (stable_row _ _ _ hY.lt) 15 #[.pointer (some ⟨X, 0, none⟩), .pointer (some ⟨Y, 0, none⟩)] (fun args W => by simp [go_sem]) (fun B w1 hB hcx ho => ?_)).mono ?_
    · exact emp2_no hcx ino _ hof h0 _ _ (hX.only ho (by simpa using hXV)) (hY.only ho (by simpa using hYV)) (by have := hY.lt; omega) _
    · rintro e w' ⟨hst, hO⟩
      obtain ⟨e1, _, e3⟩ := read_no hc (by omega) hst
      exact ⟨e1, by rw [decide_eq_false c]; exact e3, hO2 _ hO⟩
theorem nil_spec : NilSpec := by
  rintro w i name
  obtain ⟨t, rfl⟩ := str_of name
  have hmf : ∀ (fn : Fn) (first cap : Array Value) (w : World), (Instr.makeFunc fn first cap).run Tryz.prog w = .ok (.func fn first cap) w := fun _ _ _ _ => rfl
  have S := Lib.hid (vfind_box w i t)
  have HDO := Lib.hid (fun W g => do_nil W g)
  go_enter Tryz.func14, Tryz.ntmps14
  go_wp2_with (go_at_call 11; refine (HDO.out _ _).mono ?_; rintro e w2 ⟨rfl, hb⟩; replace S := Lib.hid (S.out.below hb))
  go_ret2
  exact ⟨rfl, S.out.bel⟩
end
end Go.Proofs.YtmpfcgjjejlhdaaGreat
