/-
  The contracts of disk's Read and Write.
-/
import Derived.Test.YtlamllnflbdcjaaDcall
namespace Go.Proofs.Ytlamllnflbdcjaa
open Go.RowKit
open Dk (zeros zeros_length)

/-! ### Read -/
theorem read_start (w : World) {d l m : Nat} {s : Dk.St} (h : DiskAt w d l m s) : PageAt (w.alloc (.cells zeroCells 31)) w.heap.size zeros ∧ Below w.heap.size w (w.alloc (.cells zeroCells 31)) ∧ DiskAt (w.alloc (.cells zeroCells 31)) d l m s ∧ w.heap.size < (w.alloc (.cells zeroCells 31)).heap.size :=
  ⟨pageAt_zeros w 31, (Below.refl _ _).alloc (Nat.le_refl _) _, h.alloc _, by simp⟩
set_option maxRecDepth 100000 in
set_option maxHeartbeats 400000 in
theorem read_nil (i : Int) (w : World) : Calls Try.prog 12 #[.pointer none, .int .i64 i] w fun e w' => e = .returned (.tuple #[pageV zeros, .int .i64 5]) ∧ Below w.heap.size w w' := by
  have HZ := Lib.hid (pageAt_zeros w 31)
  have HB : Hid (Below w.heap.size w (w.alloc (.cells zeroCells 31))) := Lib.hid ((Below.refl _ _).alloc (Nat.le_refl _) _)
  go_enter Try.func12, Try.ntmps12
  go_wp2_with fail
  refine (reach_nil _ _).mono ?_
  rintro e w' ⟨rfl, rfl⟩
  rw [← zeroCells_def]
  generalize w.alloc (.cells zeroCells 31) = w1 at HZ HB ⊢
  go_wp2_with ((with_reducible refine wpList_store_page HZ.out zeros_length rfl (.tmp 4) (.tmp 14) rfl rfl ?_ ?_); (exact rfl))
  exact bodyPost_ret (results_page_int _ 4 5 rfl _ (HZ.out.put _ zeros_length) rfl) rfl ⟨rfl, below_setCells _ (Nat.le_refl _) _ _ _ HB.out⟩
set_option maxRecDepth 100000 in
set_option maxHeartbeats 1000000 in
theorem read_any {w : World} {d l m : Nat} {s : Dk.St} (h : DiskAt w d l m s) (i : Int) : Calls Try.prog 12 #[.pointer (some ⟨d, 0, none⟩), .int .i64 i] w fun e w' => e = .returned (.tuple #[pageV (Dk.readP s i), .int .i64 (Dk.reachE s i)]) ∧ Below w.heap.size w w' := by
  have HS := Lib.hid (read_start w h)
  have HR := Lib.hid (reach_any HS.out.2.2.1 i)
  rw [zeroCells_def] at HR
  by_cases c : Dk.reachE s i = 0
  · obtain ⟨a0, a1⟩ := Dk.has_yes (Dk.reach_zero c).2
    obtain ⟨k, rfl⟩ := Int.eq_ofNat_of_zero_le a0
    have HP : Hid (Dk.readP s (k : Int) = Dk.nowAt s k) := Lib.hid (by unfold Dk.readP; rw [if_pos c, Int.toNat_natCast])
    rw [c] at HR
    have hk : k < s.last.length := by omega
    have hk2 : k ≤ 1000 := by have := h.ok.small; omega
    have HN := Lib.hid (Dk.nowAt_len h.ok hk)
    rw [c, HP.out]
    clear HP
    have HLK := Lib.hid (fun (W : World) (hW : DiskAt W d l m s) => hW.map.look k hk2)
    clear c h a0 a1
    cases hc : Dk.cacheAt s k with
    | some p =>
      have HC : Hid (s.cache.getD k none = some p) := Lib.hid hc
      have HNP : Hid (Dk.nowAt s k = p) := Lib.hid (by unfold Dk.nowAt; rw [hc]; rfl)
      rw [HNP.out] at HN ⊢
      clear HNP hc
      go_enter Try.func12, Try.ntmps12
      go_wp2_with fail
      refine HR.out.mono ?_
      rintro e w' ⟨rfl, rfl⟩
      rw [← zeroCells_def]
      clear HR
      generalize w.alloc (.cells zeroCells 31) = w1 at HS ⊢
      have c4 := HS.out.2.2.1.c4
      have hlook := HLK.out w1 HS.out.2.2.1
      rw [HC.out] at hlook
      simp only [Option.getD_some, Option.isSome_some] at hlook
      go_wp2_with (first
        | ((with_reducible refine wpList_store_new rfl (.tmp 7) (.tmp 23) rfl rfl ?_ ?_ HN.out ?_); (exact rfl); (exact rfl); intro W2 hP hB2 hz2; clear hlook; have HZ2 := Lib.hid (HS.out.1.below hB2 HS.out.2.2.2))
        | (with_reducible refine wpList_load_page hP rfl (.tmp 7) rfl rfl ?_)
        | (with_reducible refine wpList_store_page HZ2.out HN.out rfl (.tmp 4) (.tmp 26) rfl rfl rfl ?_))
      exact bodyPost_ret (results_page_int _ 4 5 rfl _ (HZ2.out.put _ HN.out) rfl) rfl ⟨rfl, below_setCells _ (Nat.le_refl _) _ _ _ (HS.out.2.1.trans (hB2.mono HS.out.2.1.size))⟩
    | none =>
      have HC : Hid (s.cache.getD k none = none) := Lib.hid hc
      obtain ⟨p, hp⟩ : ∃ p, s.last[k]? = some p := ⟨_, List.getElem?_eq_getElem hk⟩
      have HNP : Hid (Dk.nowAt s k = p) := Lib.hid (by unfold Dk.nowAt Dk.lastAt; rw [hc, List.getD_eq_getElem?_getD, hp]; rfl)
      rw [HNP.out] at HN ⊢
      have HI := Lib.hid hp
      clear HNP hc hp
      go_enter Try.func12, Try.ntmps12
      go_wp2_with fail
      refine HR.out.mono ?_
      rintro e w' ⟨rfl, rfl⟩
      rw [← zeroCells_def]
      clear HR
      generalize w.alloc (.cells zeroCells 31) = w1 at HS ⊢
      have c4 := HS.out.2.2.1.c4
      have hlook := HLK.out w1 HS.out.2.2.1
      rw [HC.out] at hlook
      simp only [Option.getD_none, Option.isSome_none] at hlook
      go_wp2_with (first
        | ((with_reducible refine wpList_store_new rfl (.tmp 7) (.tmp 23) rfl rfl ?_ ?_ zeros_length ?_); (exact rfl); (exact rfl); intro W2 hP hB2 hz2; clear hlook; have HZ2 := Lib.hid (HS.out.1.below hB2 HS.out.2.2.2); have HD2 := Lib.hid (HS.out.2.2.1.below hB2); have c3 := HD2.out.c3)
        | (with_reducible refine wpList_load_row HD2.out.rows k HI.out rfl (.tmp 32) rfl rfl ?_)
        | (with_reducible refine wpList_store_page HZ2.out HN.out rfl (.tmp 4) (.tmp 33) rfl rfl rfl ?_))
      exact bodyPost_ret (results_page_int _ 4 5 rfl _ (HZ2.out.put _ HN.out) rfl) rfl ⟨rfl, below_setCells _ (Nat.le_refl _) _ _ _ (HS.out.2.1.trans (hB2.mono HS.out.2.1.size))⟩
  · have HP : Hid (Dk.readP s i = zeros) := Lib.hid (by unfold Dk.readP; rw [if_neg c])
    rw [HP.out]
    have hne : (Dk.reachE s i == 0) = false := by simpa using c
    have hne2 : (Dk.reachE s i != 0) = true := by simpa using c
    generalize Dk.reachE s i = E at HR hne hne2 ⊢
    clear c h HP
    go_enter Try.func12, Try.ntmps12
    go_wp2_with fail
    refine HR.out.mono ?_
    rintro e w' ⟨rfl, rfl⟩
    rw [← zeroCells_def]
    clear HR
    generalize w.alloc (.cells zeroCells 31) = w1 at HS ⊢
    go_wp2_with ((with_reducible refine wpList_store_page HS.out.1 zeros_length rfl (.tmp 4) (.tmp 14) rfl rfl ?_ ?_); (exact rfl))
    exact bodyPost_ret (results_page_int _ 4 5 rfl _ (HS.out.1.put _ zeros_length) rfl) rfl ⟨rfl, below_setCells _ (Nat.le_refl _) _ _ _ HS.out.2.1⟩

/-! ### Write -/
theorem wpStill_load_page {ops : Array Oper} {rest : List Oper} {op : Oper} {a : Act} {Q : Act → Prop} {w : World} {b : Nat} {p : List UInt8} (hp : PageAt w b p) (hgd : op.guard = none) (x : Operand) (ho : op.op = .load 31 x)
    (hx : a.eval x = .pointer (some ⟨b, 0, none⟩)) (h : wpStill Try.prog ops w Q rest (a.put op.dst (pageV p))) : wpStill Try.prog ops w Q (op :: rest) a := by
  refine wpStill_step (fun K hK => ?_)
  have hw : Region.wanted op (yielded ops a.tmps) = true := by simp only [Region.wanted, hgd]
  have hrun : (execOp a.eval op).run Try.prog w = .ok (.value (pageV p)) w := by
    unfold execOp
    simp only [ho, hx, hp.loadsAt, Sem.run_bind, Sem.run_pure, Result.andThen_ok]
  rw [if_pos hw]
  unfold Oper.still
  rw [hrun]
  exact ⟨rfl, hK _ h⟩
theorem wpStill_load_row {ops : Array Oper} {rest : List Oper} {op : Oper} {a : Act} {Q : Act → Prop} {w : World} {b : Nat} {ps : List (List UInt8)} (h : RowsAt w b ps) (i : Nat) {p : List UInt8} (hi : ps[i]? = some p) (hgd : op.guard = none) (x : Operand) (ho : op.op = .load 31 x)
    (hx : a.eval x = .pointer (some ⟨b, i * 64, none⟩)) (hK : wpStill Try.prog ops w Q rest (a.put op.dst (pageV p))) : wpStill Try.prog ops w Q (op :: rest) a := by
  refine wpStill_step (fun K hK' => ?_)
  have hw : Region.wanted op (yielded ops a.tmps) = true := by simp only [Region.wanted, hgd]
  have hl := run_loadAt_mid (P := Try.prog) w b (i * 64) 31 (byteVals p) _ (h.range i p hi) Try.underlying31 rfl (by rw [page_info, byteVals_length, h.size p (List.mem_of_getElem? hi)])
  have hrun : (execOp a.eval op).run Try.prog w = .ok (.value (pageV p)) w := by
    unfold execOp pageV
    simp only [ho, hx, hl, Sem.run_bind, Sem.run_pure, Result.andThen_ok]
  rw [if_pos hw]
  unfold Oper.still
  rw [hrun]
  exact ⟨rfl, hK' _ hK⟩
theorem wpList_map_store {ops : Array Oper} {rest : List Oper} {o : Oper} {a : Act} {Q : Exit → Act → World → Prop} {w : World} {b : Nat} {c : List (Option (List UInt8))} (h : MapAt w b c) (i : Nat) (hi : i < c.length) (hc : c.length ≤ 1000) {p : List UInt8} (hp : p.length = 64)
    (hgd : o.guard = none) (m x v : Operand) (hop : o.op = .mapUpdate 55 m x v) (hm : a.eval m = .map (some b)) (hx : a.eval x = .int .i64 (i : Int)) (hv : a.eval v = pageV p)
    (hK : ∀ w', MapAt w' b (c.set i (some p)) → w.mapTurned w' b → wpList Try.prog ops Q rest (a.put o.dst undef) w') : wpList Try.prog ops Q (o :: rest) a w := by
  refine wpList_plain hgd fun K' hK' => ?_
  obtain ⟨w', hrun, r1, r2⟩ := h.store i hi hc hp
  unfold Oper.wp
  simp [execOp, hop, hm, hx, hv, hrun, Result.andThen]
  exact hK' _ _ (hK w' r1 r2)
theorem mapTurned_size {w w' : World} {b : Nat} (h : w.mapTurned w' b) : w'.heap.size = w.heap.size := by
  obtain ⟨es, clock, es', clock', hb, rfl⟩ := h
  simp [ChangeMaps.setBlock]
set_option maxRecDepth 100000 in
set_option maxHeartbeats 400000 in
theorem write_nil (i : Int) (p : List UInt8) (w : World) : Calls Try.prog 39 #[.pointer none, .int .i64 i, pageV p] w fun e w' => e = .returned (.int .i64 5) ∧ Below w.heap.size w w' := by
  unfold pageV
  go_enter Try.func39, Try.ntmps39
  go_wp2_with (go_at_call 22; refine (reach_nil _ _).mono ?_; rintro e w' ⟨rfl, rfl⟩)
  go_ret
  exact ⟨rfl, (Below.refl _ _).alloc (Nat.le_refl _) _⟩
set_option maxRecDepth 100000 in
set_option maxHeartbeats 1000000 in
theorem write_any {w : World} {d l m : Nat} {s : Dk.St} (h : DiskAt w d l m s) (i : Int) (p : List UInt8) (hp : p.length = 64) : Calls Try.prog 39 #[.pointer (some ⟨d, 0, none⟩), .int .i64 i, pageV p] w fun e w' =>
    e = .returned (.int .i64 (Dk.writeE s i)) ∧ DiskAt w' d l m (Dk.write s i p) ∧ Only [d, m] w w' := by
  have HP := Lib.hid hp
  have HQ := Lib.hid (pageAt_new w p 31 hp)
  have HD := Lib.hid (h.alloc (.cells (byteVals p).toArray 31))
  have HO : Hid (Only [d, m] w (w.alloc (.cells (byteVals p).toArray 31))) := Lib.hid ((Only.refl _ _).alloc _)
  have HR := Lib.hid (reach_any HD.out i)
  have HS := Lib.hid (spend_any HD.out)
  have hne : w.heap.size ≠ d := by have := h.dlt; omega
  have HNE := Lib.hid hne
  have hlt : w.heap.size < (w.alloc (.cells (byteVals p).toArray 31)).heap.size := by simp
  have HLT := Lib.hid hlt
  have HOK := Lib.hid h.ok
  clear hp h hne hlt
  unfold pageV
  by_cases c : Dk.reachE s i = 0
  · obtain ⟨a0, a1⟩ := Dk.has_yes (Dk.reach_zero c).2
    obtain ⟨k, rfl⟩ := Int.eq_ofNat_of_zero_le a0
    rw [c] at HR
    have HK : Hid (k < s.last.length) := Lib.hid (by omega)
    have HW : Hid (Dk.writeE s (k : Int) = Dk.spendE s) := Lib.hid (by unfold Dk.writeE; rw [if_pos c])
    by_cases e : Dk.spendE s = 0
    · have HW2 : Hid (Dk.write s (k : Int) p = Dk.put (Dk.spend s) k p) := Lib.hid (by unfold Dk.write; rw [if_pos c, if_pos e, Int.toNat_natCast])
      rw [e] at HS
      rw [HW.out, HW2.out, e]
      clear a0 a1 c e HW HW2
      go_enter Try.func39, Try.ntmps39
      go_wp2_with fail
      generalize w.alloc (.cells (byteVals p).toArray 31) = w1 at HQ HD HO HR HS HLT ⊢
      refine HR.out.mono ?_
      rintro e w' ⟨rfl, rfl⟩
      go_wp2_with fail
      refine HS.out.mono ?_
      rintro e w2 ⟨rfl, hd2, ho2, hz2⟩
      have c4 := hd2.c4
      have HQ2 := Lib.hid (HQ.out.block (ho2.block _ HLT.out (by simpa using HNE.out)))
      have HD2 := Lib.hid hd2
      have HO2 := Lib.hid (HO.out.trans (ho2.mono (by simp)))
      clear hd2 ho2 hz2 HQ HD HO HR HS HLT
      go_wp2_with fail
      refine wp_region_still_tail 6 (by kernel_rfl) (by kernel_rfl) ?_
      simp only [List.take_succ_cons, List.take_zero, List.drop_succ_cons, List.drop_zero]
      change wpStill _ _ w2.drew (fun a' => wpList _ _ _ _ a' w2.drew) _ _
      have c4' : w2.drew.cell? ⟨d, 4, none⟩ = some (.map (some m)) := c4
      still_step
      still_step
      still_step
      still_step
      still_step
      refine wpStill_load_page (HQ2.out.block rfl) rfl (.tmp 5) rfl rfl ?_
      refine wpStill_nil ?_
      refine wpList_map_store (HD2.out.map.block (w' := w2.drew) rfl) k (by rw [Dk.spend_cache, HOK.out.same]; exact HK.out) (by rw [Dk.spend_cache, HOK.out.same]; have := HOK.out.small; omega) HP.out rfl (.tmp 25) (.tmp 26) (.tmp 27) rfl rfl rfl rfl ?_
      intro w3 hm3 ht3
      go_wp2
      go_ret
      refine ⟨rfl, HD2.out.drew.setMap ht3.grown hm3 (Dk.put_ok (Dk.spend_ok HOK.out) k HP.out), HO2.out.drew.trans (Only.grown ht3.grown (by simp))⟩
    · have HW2 : Hid (Dk.write s (k : Int) p = Dk.spend s) := Lib.hid (by unfold Dk.write; rw [if_pos c, if_neg e])
      rw [HW.out, HW2.out]
      have hne2 : (Dk.spendE s == 0) = false := by simpa using e
      have hne3 : (Dk.spendE s != 0) = true := by simpa using e
      generalize Dk.spendE s = E at HS hne2 hne3 ⊢
      clear a0 a1 c e HW HW2
      go_enter Try.func39, Try.ntmps39
      go_wp2_with fail
      generalize w.alloc (.cells (byteVals p).toArray 31) = w1 at HQ HD HO HR HS HLT ⊢
      refine HR.out.mono ?_
      rintro e w' ⟨rfl, rfl⟩
      go_wp2_with fail
      refine HS.out.mono ?_
      rintro e w2 ⟨rfl, hd2, ho2, hz2⟩
      go_wp2
      go_ret
      exact ⟨rfl, hd2, HO.out.trans (ho2.mono (by simp))⟩
  · have HW : Hid (Dk.writeE s i = Dk.reachE s i) := Lib.hid (by unfold Dk.writeE; rw [if_neg c])
    have HW2 : Hid (Dk.write s i p = s) := Lib.hid (by unfold Dk.write; rw [if_neg c])
    rw [HW.out, HW2.out]
    have hne2 : (Dk.reachE s i == 0) = false := by simpa using c
    have hne3 : (Dk.reachE s i != 0) = true := by simpa using c
    generalize Dk.reachE s i = E at HR hne2 hne3 ⊢
    clear c HW HW2
    go_enter Try.func39, Try.ntmps39
    go_wp2_with fail
    generalize w.alloc (.cells (byteVals p).toArray 31) = w1 at HQ HD HO HR HS HLT ⊢
    refine HR.out.mono ?_
    rintro e w' ⟨rfl, rfl⟩
    go_wp2
    go_ret
    exact ⟨rfl, HD.out, HO.out⟩
end Go.Proofs.Ytlamllnflbdcjaa
