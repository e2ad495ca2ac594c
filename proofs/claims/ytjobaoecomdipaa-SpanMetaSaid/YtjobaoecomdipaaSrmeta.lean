/-
  The contract of the document's own Meta.
-/
import Derived.Test.YtjobaoecomdipaaSmeta
import Derived.Maps.AppendAt
namespace Go.Proofs.Ytjobaoecomdipaa
open Go.RowKit

theorem intVals_snoc (zs : List Int) (x : Int) : intVals (zs ++ [x]) = intVals zs ++ [.int .i64 x] := by simp [intVals]
def OwnZ (W : World) (base : Nat) (v : Value) (zs : List Int) : Prop := W.ownsRow base 3 1 v zs.length (intVals zs)
theorem infoI : (Try.prog.info? 3).map (fun i => (i.zero, i.size, i.bytes)) = some (some (.int .i64 0), 1, 8) := by kernel_rfl
theorem OwnZ.step {W W' : World} {base : Nat} {v : Value} {zs : List Int} (h : OwnZ W base v zs) (hb : Below W.heap.size W W') : OwnZ W' base v zs := by
  refine World.ownsRow.kept h (row := none) ⟨hb.os, hb.tape, hb.output, hb.size, fun k hk _ => hb.block k hk⟩ ?_
  cases hv : v.ownBlock with
  | none => exact Or.inl rfl
  | some g => exact Or.inr (fun e => by cases e)
theorem OwnZ.form {W : World} {base : Nat} {v : Value} {zs : List Int} (h : OwnZ W base v zs) (hl : zs.length ≤ 1000) : ∃ A cap, v = .slice A zs.length cap ∧ IntRow W A zs.length zs := by
  rcases h.2 with ⟨e, h0⟩ | ⟨g, cap, cur, e, hb, hg, hc, hcm, hcs, ht⟩
  · exact ⟨none, 0, by rw [e, h0], rfl, by omega, fun hn => by omega⟩
  · have hlt : g < W.heap.size := by
      rcases Nat.lt_or_ge g W.heap.size with hlt | hge
      · exact hlt
      · rw [Array.getElem?_eq_none hge] at hg; cases hg
    subst e
    refine ⟨some ⟨g, 0, none⟩, cap, rfl, rfl, by unfold maxLen; omega, fun hn => ⟨g, 0, rfl, hlt, fun j x hx => ?_⟩⟩
    have := World.ownsRow.cells h (g := g) rfl j (.int .i64 x) (by unfold intVals; rw [List.getElem?_map, hx]; rfl)
    rwa [Addr.add_mid] at this
theorem cell_new1 (w : World) (v : Value) (t : TypeId) : ∀ j u, [v][j]? = some u → (w.alloc (.cells #[v] t)).cell? ((⟨w.heap.size, 0, none⟩ : Addr).add j) = some u := by
  intro j u hu
  have hj : j = 0 := by
    have := (List.getElem?_eq_some_iff.1 hu).1
    simpa using this
  subst hj
  rw [Addr.add_mid, World.cell?_alloc_mark]
  simpa using hu
/-- what holds between two rounds -/
structure RKeep (w wr : World) (A : Option Addr) (n : Nat) (xs : List Int) (v : Value) (zs : List Int) : Prop where
  row : IntRow wr A n xs
  own : OwnZ wr w.heap.size v zs
  bel : Below w.heap.size w wr
theorem RKeep.step {w wr wr' : World} {A : Option Addr} {n : Nat} {xs : List Int} {v : Value} {zs : List Int} (h : RKeep w wr A n xs v zs) (hb : Below wr.heap.size wr wr') : RKeep w wr' A n xs v zs :=
  ⟨h.row.step hb, h.own.step hb, h.bel.trans (hb.mono h.bel.size)⟩
theorem contains_snoc (zs : List Int) (x o : Int) : (zs ++ [x]).contains o = (zs.contains o || x == o) := by
  simp only [List.contains_eq_mem, List.mem_append, List.mem_singleton, Bool.decide_or]
  congr 1
  rw [Bool.beq_eq_decide_eq, decide_eq_decide]
  exact eq_comm
theorem contains_take (zs : List Int) (j : Nat) (x o : Int) (h : zs[j]? = some x) : (zs.take (j + 1)).contains o = ((zs.take j).contains o || x == o) := by
  obtain ⟨hj, rfl⟩ := List.getElem?_eq_some_iff.1 h
  rw [List.take_succ_eq_append_getElem hj, contains_snoc]
set_option maxRecDepth 100000 in
set_option maxHeartbeats 4000000 in
theorem rmeta_any (A : Option Addr) (n c : Nat) (xs : List Int) (w : World) (h : IntRow w A n xs) (hn : n ≤ 200) :
    Calls Try.prog 14 #[.slice A n c] w fun e w' => e = .returned (.int .i64 (Sp.meta_ xs : Int)) ∧ Below w.heap.size w w' := by
  have hlen := h.len
  have HX := Lib.hid h; clear h
  have HLEN := Lib.hid hlen; clear hlen
  obtain ⟨i0, hi, hz0, hz1, hz2⟩ := info_parts infoI
  go_enter Try.func14, Try.ntmps14
  go_wp2_with fail
  go_loopw [3, 4, 5, 6] (fun a b v i wr => ∃ k : Nat, k ≤ n ∧ i = .int .i64 (k : Int) ∧ a = .int .i64 ((Sp.run (xs.take k)).a.toNat : Int) ∧ b = .int .i64 ((Sp.run (xs.take k)).b.toNat : Int) ∧ RKeep w wr A n xs v (Sp.run (xs.take k)).ls) (fun _ _ _ i _ => n - (intOf i).toNat)
  case atStart => exact ⟨0, Nat.zero_le _, rfl, rfl, rfl, HX.out.step ((Below.refl _ _).alloc (Nat.le_refl _) _), (show World.ownsRow _ _ _ 1 _ 0 [] from World.ownsRow_made w #[] 0 (Nat.le_refl _) (Nat.zero_le _) rfl), (Below.refl _ _).alloc (Nat.le_refl _) _⟩
  case round =>
    obtain ⟨k, hk, rfl, rfl, rfl, hK⟩ := hrel
    rename World => wo
    have KK := Lib.hid hK; clear hK
    have hll := Sp.run_len (xs.take k)
    have hll2 : (xs.take k).length ≤ k := by rw [List.length_take]; omega
    by_cases hlt : k < n
    · obtain ⟨b, off, rfl, hbl, hc⟩ := KK.out.row.cells (by omega)
      obtain ⟨x, hx⟩ : ∃ x, xs[k]? = some x := ⟨_, List.getElem?_eq_getElem (by rw [HLEN.out]; exact hlt)⟩
      have hx0 := hc k x hx
      have hrt := Sp.run_take xs k x hx
      have HW := Lib.hid (fun w => rwhere_any x w)
      unfold RwhereGives at HW
      have hl2 : (Sp.run (xs.take k)).ls.length ≤ 400 := by omega
      clear hc hx hll hll2
      rcases Sp.kinds x with c0 | ⟨c1, c2⟩ | ⟨c1, c2⟩ | ⟨c1, c2⟩
      · have HS : Hid (Sp.run (xs.take (k + 1)) = Sp.run (xs.take k)) := Lib.hid (by rw [hrt, Sp.step_no _ _ (Sp.no_page c0).1])
        obtain ⟨e0, e1, e2, e3⟩ := Sp.no_page c0
        rw [e0, e1, e2, e3] at HW
        clear e0 e1 e2 e3 c0 hrt
        generalize hs : Sp.run (xs.take k) = s at KK HS hl2 ⊢
        clear hs
        go_wp2_with (go_at_call 9; (with_reducible refine (HW.out _).mono ?_); rintro e w2 ⟨rfl, rfl⟩)
        go_roundw
        case rel => exact ⟨k + 1, by omega, by go_num, by rw [HS.out], by rw [HS.out], by rw [HS.out]; exact KK.out⟩
        case measure => simp [intOf]; omega
      · obtain ⟨e0, e1, e2, e3⟩ := Sp.page0 c1 c2
        have HS : Hid (Sp.run (xs.take (k + 1)) = Sp.run (xs.take k)) := Lib.hid (by rw [hrt, Sp.step_0 _ _ e1])
        rw [e0, e1, e2, e3] at HW
        clear e0 e1 e2 e3 c1 c2 hrt
        generalize hs : Sp.run (xs.take k) = s at KK HS hl2 ⊢
        clear hs
        go_wp2_with (go_at_call 9; (with_reducible refine (HW.out _).mono ?_); rintro e w2 ⟨rfl, rfl⟩)
        go_roundw
        case rel => exact ⟨k + 1, by omega, by go_num, by rw [HS.out], by rw [HS.out], by rw [HS.out]; exact KK.out⟩
        case measure => simp [intOf]; omega
      · obtain ⟨e0, e1, e2, e3⟩ := Sp.page1 c1 c2
        have HS : Hid (Sp.run (xs.take (k + 1)) = { Sp.run (xs.take k) with a := true }) := Lib.hid (by rw [hrt, Sp.step_1 _ _ e0 e1])
        rw [e0, e1, e2, e3] at HW
        clear e0 e1 e2 e3 c1 c2 hrt
        generalize hs : Sp.run (xs.take k) = s at KK HS hl2 ⊢
        clear hs
        generalize x - 4 = m at HW
        go_wp2_with (go_at_call 9; (with_reducible refine (HW.out _).mono ?_); rintro e w2 ⟨rfl, rfl⟩)
        go_roundw
        case rel => exact ⟨k + 1, by omega, by go_num, by rw [HS.out]; rfl, by rw [HS.out], by rw [HS.out]; exact KK.out⟩
        case measure => simp [intOf]; omega
      · obtain ⟨e0, e1, e2, e3⟩ := Sp.page2 c1 c2
        have HS : Hid (Sp.run (xs.take (k + 1)) = { Sp.run (xs.take k) with b := true, ls := if (Sp.run (xs.take k)).ls.contains (Sp.out x) then (Sp.run (xs.take k)).ls else (Sp.run (xs.take k)).ls ++ [Sp.out x] }) := Lib.hid (by rw [hrt, Sp.step_2 _ _ e0 e1])
        rw [e0, e1, e3] at HW
        clear e0 e1 e2 e3 hrt
        generalize hs : Sp.run (xs.take k) = s at KK HS hl2 ⊢
        clear hs
        generalize (x - 36) % 32 = m at HW
        generalize Sp.out x = o at HW HS
        clear c1 c2
        obtain ⟨zs, hzs⟩ : ∃ zs, s.ls = zs := ⟨_, rfl⟩
        rw [hzs] at KK HS hl2
        clear hzs
        obtain ⟨A5, c5, e5, hr5⟩ := OwnZ.form KK.out.own (by omega)
        rw [e5] at KK
        rw [e5]
        clear e5
        have R5 := Lib.hid hr5; clear hr5
        obtain ⟨zl, hzl⟩ : ∃ zl, zs.length = zl := ⟨_, rfl⟩
        rw [hzl] at hl2 R5 KK
        rw [hzl]
        have HZL := Lib.hid hzl; clear hzl
        go_wp2_with (go_at_call 9; (with_reducible refine (HW.out _).mono ?_); rintro e w2 ⟨rfl, rfl⟩)
        go_loop [11, 12] (fun t i => ∃ j : Nat, j ≤ zl ∧ i = .int .i64 (j : Int) ∧ t = .bool ((zs.take j).contains o)) (fun _ i => zl - (intOf i).toNat)
        case atStart => exact ⟨0, Nat.zero_le _, rfl, rfl⟩
        case round =>
          obtain ⟨j, hj, rfl, rfl⟩ := hrel
          by_cases hjl : j < zl
          · obtain ⟨b4, off4, rfl, _, hc4⟩ := R5.out.cells (by omega)
            obtain ⟨q, hq⟩ : ∃ q, zs[j]? = some q := ⟨_, List.getElem?_eq_getElem (by rw [HZL.out]; exact hjl)⟩
            have hq0 := hc4 j q hq
            have HQ := Lib.hid (contains_take zs j q o hq)
            clear hc4 hq
            cases hcn : (zs.take j).contains o with
            | true =>
              go_wp2
              go_round
              case rel => exact ⟨j + 1, by omega, by go_num, by rw [HQ.out, hcn]; rfl⟩
              case measure => simp [intOf]; omega
            | false =>
              go_wp2
              go_round
              case rel => exact ⟨j + 1, by omega, by go_num, by rw [HQ.out, hcn]; simp⟩
              case measure => simp [intOf]; omega
          · have HE2 : Hid ((zs.take j).contains o = zs.contains o) := Lib.hid (by rw [List.take_of_length_le (by rw [HZL.out]; omega)])
            rw [HE2.out]
            cases hcn : zs.contains o with
            | true =>
              rw [hcn] at HS
              go_wp2
              go_roundw
              case rel => exact ⟨k + 1, by omega, by go_num, by rw [HS.out], by rw [HS.out]; rfl, by rw [HS.out]; exact KK.out⟩
              case measure => simp [intOf]; omega
            | false =>
              rw [hcn] at HS
              have HO : Hid (World.ownsRow wo w.heap.size 3 1 (.slice A5 zl c5) zl (intVals zs)) := Lib.hid (by have := KK.out.own; unfold OwnZ at this; rw [HZL.out] at this; exact this)
              have hB := Lib.hid KK.out.bel
              go_wp2_with (at_builtin; go_must (refine wpList_append_own_at _ rfl (.tmp 55) (.tmp 57) 34 rfl w.heap.size 3 i0 _ 1 8 Try.underlying34 hi hz0 hz1 hz2 rfl (by omega) _ _ _ rfl (World.ownsRow.alloc HO.out _) ⟨wo.heap.size, 0, none⟩ 1 1 [.int .i64 o] rfl rfl (cell_new1 _ _ _) (by simp [Value.oneCell']) (by unfold maxLen; omega) (by omega) (by have := hB.out.size; simp; omega) ?_); intro v' w5 hown' hgrow hnil hloc)
              go_roundw
              case rel =>
                refine ⟨k + 1, by omega, by go_num, by rw [HS.out], by rw [HS.out]; rfl, ?_⟩
                rw [HS.out]
                have hbw : Below w.heap.size w w5 := (hB.out.alloc hB.out.size _).grown hgrow (by have := hB.out.size; simp; omega) (fun q hq => (World.ownsRow.lt HO.out q hq).1)
                refine ⟨HX.out.step hbw, ?_, hbw⟩
                show World.ownsRow _ _ _ 1 _ (zs ++ [o]).length (intVals (zs ++ [o]))
                rw [intVals_snoc, List.length_append, HZL.out]
                exact hown'
              case measure => simp [intOf]; omega
    · have HE : Hid (Sp.run (xs.take k) = Sp.run xs) := Lib.hid (by rw [List.take_of_length_le (by rw [HLEN.out]; omega)])
      rw [HE.out] at KK hll ⊢
      have hl9 : (Sp.run xs).ls.length ≤ 400 := by omega
      obtain ⟨A5, c5, e5, hr5⟩ := OwnZ.form KK.out.own (by omega)
      rw [e5] at KK
      rw [e5]
      clear e5 hr5 hll hll2
      have HF : Hid ((Sp.meta_ xs : Int) = ((Sp.run xs).a.toNat : Int) + ((Sp.run xs).b.toNat : Int) + ((Sp.run xs).ls.length : Int)) := Lib.hid (by unfold Sp.meta_ Sp.St.cnt; omega)
      have ha : (Sp.run xs).a.toNat ≤ 1 := by cases (Sp.run xs).a <;> decide
      have hb : (Sp.run xs).b.toNat ≤ 1 := by cases (Sp.run xs).b <;> decide
      generalize (Sp.run xs).a.toNat = a at HF ha ⊢
      generalize (Sp.run xs).b.toNat = b at HF hb ⊢
      have HKB := Lib.hid KK.out.bel
      clear KK
      generalize (Sp.run xs).ls.length = z at HF hl9 ⊢
      go_wp2
      go_ret
      exact ⟨ret_int (by rw [HF.out]), HKB.out⟩
end Go.Proofs.Ytjobaoecomdipaa
