/-
  The contracts of disk's Read and Write.
-/
import Derived.Test.YtppbiohjhnoagaaGreatMda
import Derived.Laws.IdiomCopy
import Derived.IntWalk
import Derived.Lib.SlBuf
import Derived.Deep.RegionHeld3
import Derived.ProofKit
import Derived.OpenShut
import Derived.ShutString
import Derived.ChangeOld
import Derived.Lib.SmallJoins
namespace Go.Proofs.YtppbiohjhnoagaaGreat
open Go.RowKit
open Dk (zeros zeros_length)

/-! ### Read -/
set_option maxRecDepth 100000 in
theorem read_start (w : World) {d l m : Nat} {s : Dk.St} (h : DiskAt w d l m s) : PageAt (w.alloc (.cells zeroCells 38)) w.heap.size zeros ∧ Below w.heap.size w (w.alloc (.cells zeroCells 38)) ∧ DiskAt (w.alloc (.cells zeroCells 38)) d l m s ∧ w.heap.size < (w.alloc (.cells zeroCells 38)).heap.size :=
  ⟨pageAt_zeros w 38, (Below.refl _ _).alloc (Nat.le_refl _) _, h.alloc _, by simp⟩
set_option maxRecDepth 100000 in
set_option maxHeartbeats 400000 in
theorem read_nil (i : Int) (w : World) : Calls Tryz.prog 35 #[.pointer none, .int .i64 i] w fun e w' => e = .returned (.tuple #[pageV zeros, .int .i64 5]) ∧ Below w.heap.size w w' := by
  have HZ := Lib.hid (pageAt_zeros w 38)
  have HB : Hid (Below w.heap.size w (w.alloc (.cells zeroCells 38))) := Lib.hid ((Below.refl _ _).alloc (Nat.le_refl _) _)
  go_enter Tryz.func35, Tryz.ntmps35
  go_wp2_with fail
  refine (reach_nil _ _).mono ?_
  rintro e w' ⟨rfl, rfl⟩
  rw [← zeroCells_def]
  generalize w.alloc (.cells zeroCells 38) = w1 at HZ HB ⊢
  go_wp2_with ((with_reducible refine wpList_store_page HZ.out zeros_length rfl (.tmp 4) (.tmp 14) rfl rfl ?_ ?_); (exact rfl))
  exact bodyPost_ret (results_page_int _ 4 5 rfl _ (HZ.out.put _ zeros_length) rfl) rfl ⟨rfl, below_setCells _ (Nat.le_refl _) _ _ _ HB.out⟩
set_option maxRecDepth 100000 in
set_option maxHeartbeats 1000000 in
theorem read_any {w : World} {d l m : Nat} {s : Dk.St} (h : DiskAt w d l m s) (i : Int) : Calls Tryz.prog 35 #[.pointer (some ⟨d, 0, none⟩), .int .i64 i] w fun e w' => e = .returned (.tuple #[pageV (Dk.readP s i), .int .i64 (Dk.reachE s i)]) ∧ Below w.heap.size w w' := by
  have HS := Lib.hid (read_start w h)
  have HR := Lib.hid (reach_any HS.out.2.2.1 i)
  rw [zeroCells_def] at HR
  by_cases c : Dk.reachE s i = 0
  · obtain ⟨a0, a1⟩ := Dk.has_yes (Dk.reach_zero c).2
    obtain ⟨k, rfl⟩ := Int.eq_ofNat_of_zero_le a0
    have HP : Hid (Dk.readP s (k : Int) = Dk.nowAt s k) := Lib.hid (by unfold Dk.readP; rw [if_pos c, Int.toNat_natCast])
    rw [c] at HR
    have hk : k < s.last.length := by omega
    have hk2 : k ≤ 1000 := by have := h.ok.small; omega
    have HN := Lib.hid (Dk.nowAt_len h.ok hk)
    rw [c, HP.out]
    clear HP
    have HLK := Lib.hid (fun (W : World) (hW : DiskAt W d l m s) => hW.map.look k hk2)
    clear c h a0 a1
    cases hc : Dk.cacheAt s k with
    | some p =>
      have HC : Hid (s.cache.getD k none = some p) := Lib.hid hc
      have HNP : Hid (Dk.nowAt s k = p) := Lib.hid (by unfold Dk.nowAt; rw [hc]; rfl)
      rw [HNP.out] at HN ⊢
      clear HNP hc
      go_enter Tryz.func35, Tryz.ntmps35
      go_wp2_with fail
      refine HR.out.mono ?_
      rintro e w' ⟨rfl, rfl⟩
      rw [← zeroCells_def]
      clear HR
      generalize w.alloc (.cells zeroCells 38) = w1 at HS ⊢
      have c4 := HS.out.2.2.1.c4
      have hlook := HLK.out w1 HS.out.2.2.1
      rw [HC.out] at hlook
      simp only [Option.getD_some, Option.isSome_some] at hlook
      go_wp2_with (first
        | ((with_reducible refine wpList_store_new rfl (.tmp 7) (.tmp 23) rfl rfl ?_ ?_ HN.out ?_); (exact rfl); (exact rfl); intro W2 hP hB2 hz2; clear hlook; have HZ2 := Lib.hid (HS.out.1.below hB2 HS.out.2.2.2))
        | (with_reducible refine wpList_load_page hP rfl (.tmp 7) rfl rfl ?_)
        | (with_reducible refine wpList_store_page HZ2.out HN.out rfl (.tmp 4) (.tmp 26) rfl rfl rfl ?_))
      exact bodyPost_ret (results_page_int _ 4 5 rfl _ (HZ2.out.put _ HN.out) rfl) rfl ⟨rfl, below_setCells _ (Nat.le_refl _) _ _ _ (HS.out.2.1.trans (hB2.mono HS.out.2.1.size))⟩
    | none =>
      have HC : Hid (s.cache.getD k none = none) := Lib.hid hc
      obtain ⟨p, hp⟩ : ∃ p, s.last[k]? = some p := ⟨_, List.getElem?_eq_getElem hk⟩
      have HNP : Hid (Dk.nowAt s k = p) := Lib.hid (by unfold Dk.nowAt Dk.lastAt; rw [hc, List.getD_eq_getElem?_getD, hp]; rfl)
      rw [HNP.out] at HN ⊢
      have HI := Lib.hid hp
      clear HNP hc hp
      go_enter Tryz.func35, Tryz.ntmps35
      go_wp2_with fail
      refine HR.out.mono ?_
      rintro e w' ⟨rfl, rfl⟩
      rw [← zeroCells_def]
      clear HR
      generalize w.alloc (.cells zeroCells 38) = w1 at HS ⊢
      have c4 := HS.out.2.2.1.c4
      have hlook := HLK.out w1 HS.out.2.2.1
      rw [HC.out] at hlook
      simp only [Option.getD_none, Option.isSome_none] at hlook
      go_wp2_with (first
        | ((with_reducible refine wpList_store_new rfl (.tmp 7) (.tmp 23) rfl rfl ?_ ?_ zeros_length ?_); (exact rfl); (exact rfl); intro W2 hP hB2 hz2; clear hlook; have HZ2 := Lib.hid (HS.out.1.below hB2 HS.out.2.2.2); have HD2 := Lib.hid (HS.out.2.2.1.below hB2); have c3 := HD2.out.c3)
        | (with_reducible refine wpList_load_row HD2.out.rows k HI.out rfl (.tmp 32) rfl rfl ?_)
        | (with_reducible refine wpList_store_page HZ2.out HN.out rfl (.tmp 4) (.tmp 33) rfl rfl rfl ?_))
      exact bodyPost_ret (results_page_int _ 4 5 rfl _ (HZ2.out.put _ HN.out) rfl) rfl ⟨rfl, below_setCells _ (Nat.le_refl _) _ _ _ (HS.out.2.1.trans (hB2.mono HS.out.2.1.size))⟩
  · have HP : Hid (Dk.readP s i = zeros) := Lib.hid (by unfold Dk.readP; rw [if_neg c])
    rw [HP.out]
    have hne : (Dk.reachE s i == 0) = false := by simpa using c
    have hne2 : (Dk.reachE s i != 0) = true := by simpa using c
    generalize Dk.reachE s i = E at HR hne hne2 ⊢
    clear c h HP
    go_enter Tryz.func35, Tryz.ntmps35
    go_wp2_with fail
    refine HR.out.mono ?_
    rintro e w' ⟨rfl, rfl⟩
    rw [← zeroCells_def]
    clear HR
    generalize w.alloc (.cells zeroCells 38) = w1 at HS ⊢
    go_wp2_with ((with_reducible refine wpList_store_page HS.out.1 zeros_length rfl (.tmp 4) (.tmp 14) rfl rfl ?_ ?_); (exact rfl))
    exact bodyPost_ret (results_page_int _ 4 5 rfl _ (HS.out.1.put _ zeros_length) rfl) rfl ⟨rfl, below_setCells _ (Nat.le_refl _) _ _ _ HS.out.2.1⟩

/-! ### Write -/
set_option maxRecDepth 100000 in
theorem wpStill_load_page {ops : Array Oper} {rest : List Oper} {op : Oper} {a : Act} {Q : Act → Prop} {w : World} {b : Nat} {p : List UInt8} (hp : PageAt w b p) (hgd : op.guard = none) (x : Operand) (ho : op.op = .load 38 x)
    (hx : a.eval x = .pointer (some ⟨b, 0, none⟩)) (h : wpStill Tryz.prog ops w Q rest (a.put op.dst (pageV p))) : wpStill Tryz.prog ops w Q (op :: rest) a := by
  refine wpStill_step (fun K hK => ?_)
  have hw : Region.wanted op (yielded ops a.tmps) = true := by simp only [Region.wanted, hgd]
  have hrun : (execOp a.eval op).run Tryz.prog w = .ok (.value (pageV p)) w := by
    unfold execOp
    simp only [ho, hx, hp.loadsAt, Sem.run_bind, Sem.run_pure, Result.andThen_ok]
  rw [if_pos hw]
  unfold Oper.still
  rw [hrun]
  exact ⟨rfl, hK _ h⟩
set_option maxRecDepth 100000 in
theorem wpStill_load_row {ops : Array Oper} {rest : List Oper} {op : Oper} {a : Act} {Q : Act → Prop} {w : World} {b : Nat} {ps : List (List UInt8)} (h : RowsAt w b ps) (i : Nat) {p : List UInt8} (hi : ps[i]? = some p) (hgd : op.guard = none) (x : Operand) (ho : op.op = .load 38 x)
    (hx : a.eval x = .pointer (some ⟨b, i * 64, none⟩)) (hK : wpStill Tryz.prog ops w Q rest (a.put op.dst (pageV p))) : wpStill Tryz.prog ops w Q (op :: rest) a := by
  refine wpStill_step (fun K hK' => ?_)
  have hw : Region.wanted op (yielded ops a.tmps) = true := by simp only [Region.wanted, hgd]
  have hl := run_loadAt_mid (P := Tryz.prog) w b (i * 64) 38 (byteVals p) _ (h.range i p hi) Tryz.underlying38 rfl (by rw [page_info, byteVals_length, h.size p (List.mem_of_getElem? hi)])
  have hrun : (execOp a.eval op).run Tryz.prog w = .ok (.value (pageV p)) w := by
    unfold execOp pageV
    simp only [ho, hx, hl, Sem.run_bind, Sem.run_pure, Result.andThen_ok]
  rw [if_pos hw]
  unfold Oper.still
  rw [hrun]
  exact ⟨rfl, hK' _ hK⟩
set_option maxRecDepth 100000 in
theorem wpList_map_store {ops : Array Oper} {rest : List Oper} {o : Oper} {a : Act} {Q : Exit → Act → World → Prop} {w : World} {b : Nat} {c : List (Option (List UInt8))} (h : MapAt w b c) (i : Nat) (hi : i < c.length) (hc : c.length ≤ 1000) {p : List UInt8} (hp : p.length = 64)
    (hgd : o.guard = none) (m x v : Operand) (hop : o.op = .mapUpdate 65 m x v) (hm : a.eval m = .map (some b)) (hx : a.eval x = .int .i64 (i : Int)) (hv : a.eval v = pageV p)
    (hK : ∀ w', MapAt w' b (c.set i (some p)) → w.mapTurned w' b → wpList Tryz.prog ops Q rest (a.put o.dst undef) w') : wpList Tryz.prog ops Q (o :: rest) a w := by
  refine wpList_plain hgd fun K' hK' => ?_
  obtain ⟨w', hrun, r1, r2⟩ := h.store i hi hc hp
  unfold Oper.wp
  simp [execOp, hop, hm, hx, hv, hrun, Result.andThen]
  exact hK' _ _ (hK w' r1 r2)
set_option maxRecDepth 100000 in
theorem mapTurned_size {w w' : World} {b : Nat} (h : w.mapTurned w' b) : w'.heap.size = w.heap.size := by
  obtain ⟨es, clock, es', clock', hb, rfl⟩ := h
  simp [ChangeMaps.setBlock]
set_option maxRecDepth 100000 in
set_option maxHeartbeats 400000 in
theorem write_nil (i : Int) (p : List UInt8) (w : World) : Calls Tryz.prog 90 #[.pointer none, .int .i64 i, pageV p] w fun e w' => e = .returned (.int .i64 5) ∧ Below w.heap.size w w' := by
  unfold pageV
  go_enter Tryz.func90, Tryz.ntmps90
  go_wp2_with (go_at_call 57; refine (reach_nil _ _).mono ?_; rintro e w' ⟨rfl, rfl⟩)
  go_ret
  exact ⟨rfl, (Below.refl _ _).alloc (Nat.le_refl _) _⟩
set_option maxRecDepth 100000 in
set_option maxHeartbeats 1000000 in
theorem write_any {w : World} {d l m : Nat} {s : Dk.St} (h : DiskAt w d l m s) (i : Int) (p : List UInt8) (hp : p.length = 64) : Calls Tryz.prog 90 #[.pointer (some ⟨d, 0, none⟩), .int .i64 i, pageV p] w fun e w' =>
    e = .returned (.int .i64 (Dk.writeE s i)) ∧ DiskAt w' d l m (Dk.write s i p) ∧ Only [d, m] w w' := by
  have HP := Lib.hid hp
  have HQ := Lib.hid (pageAt_new w p 38 hp)
  have HD := Lib.hid (h.alloc (.cells (byteVals p).toArray 38))
  have HO : Hid (Only [d, m] w (w.alloc (.cells (byteVals p).toArray 38))) := Lib.hid ((Only.refl _ _).alloc _)
  have HR := Lib.hid (reach_any HD.out i)
  have HS := Lib.hid (spend_any HD.out)
  have hne : w.heap.size ≠ d := by have := h.dlt; omega
  have HNE := Lib.hid hne
  have hlt : w.heap.size < (w.alloc (.cells (byteVals p).toArray 38)).heap.size := by simp
  have HLT := Lib.hid hlt
  have HOK := Lib.hid h.ok
  clear hp h hne hlt
  unfold pageV
  by_cases c : Dk.reachE s i = 0
  · obtain ⟨a0, a1⟩ := Dk.has_yes (Dk.reach_zero c).2
    obtain ⟨k, rfl⟩ := Int.eq_ofNat_of_zero_le a0
    rw [c] at HR
    have HK : Hid (k < s.last.length) := Lib.hid (by omega)
    have HW : Hid (Dk.writeE s (k : Int) = Dk.spendE s) := Lib.hid (by unfold Dk.writeE; rw [if_pos c])
    by_cases e : Dk.spendE s = 0
    · have HW2 : Hid (Dk.write s (k : Int) p = Dk.put (Dk.spend s) k p) := Lib.hid (by unfold Dk.write; rw [if_pos c, if_pos e, Int.toNat_natCast])
      rw [e] at HS
      rw [HW.out, HW2.out, e]
      clear a0 a1 c e HW HW2
      go_enter Tryz.func90, Tryz.ntmps90
      go_wp2_with fail
      generalize w.alloc (.cells (byteVals p).toArray 38) = w1 at HQ HD HO HR HS HLT ⊢
      refine HR.out.mono ?_
      rintro e w' ⟨rfl, rfl⟩
      go_wp2_with fail
      refine HS.out.mono ?_
      rintro e w2 ⟨rfl, hd2, ho2, hz2⟩
      have c4 := hd2.c4
      have HQ2 := Lib.hid (HQ.out.block (ho2.block _ HLT.out (by simpa using HNE.out)))
      have HD2 := Lib.hid hd2
      have HO2 := Lib.hid (HO.out.trans (ho2.mono (by simp)))
      clear hd2 ho2 hz2 HQ HD HO HR HS HLT
      go_wp2_with fail
      refine wp_region_still_tail 6 (by kernel_rfl) (by kernel_rfl) ?_
      simp only [List.take_succ_cons, List.take_zero, List.drop_succ_cons, List.drop_zero]
      change wpStill _ _ w2.drew (fun a' => wpList _ _ _ _ a' w2.drew) _ _
      have c4' : w2.drew.cell? ⟨d, 4, none⟩ = some (.map (some m)) := c4
      still_step
      still_step
      still_step
      still_step
      still_step
      refine wpStill_load_page (HQ2.out.block rfl) rfl (.tmp 5) rfl rfl ?_
      refine wpStill_nil ?_
      refine wpList_map_store (HD2.out.map.block (w' := w2.drew) rfl) k (by rw [Dk.spend_cache, HOK.out.same]; exact HK.out) (by rw [Dk.spend_cache, HOK.out.same]; have := HOK.out.small; omega) HP.out rfl (.tmp 25) (.tmp 26) (.tmp 27) rfl rfl rfl rfl ?_
      intro w3 hm3 ht3
      go_wp2
      go_ret
      refine ⟨rfl, HD2.out.drew.setMap ht3.grown hm3 (Dk.put_ok (Dk.spend_ok HOK.out) k HP.out), HO2.out.drew.trans (Only.grown ht3.grown (by simp))⟩
    · have HW2 : Hid (Dk.write s (k : Int) p = Dk.spend s) := Lib.hid (by unfold Dk.write; rw [if_pos c, if_neg e])
      rw [HW.out, HW2.out]
      have hne2 : (Dk.spendE s == 0) = false := by simpa using e
      have hne3 : (Dk.spendE s != 0) = true := by simpa using e
      generalize Dk.spendE s = E at HS hne2 hne3 ⊢
      clear a0 a1 c e HW HW2
      go_enter Tryz.func90, Tryz.ntmps90
      go_wp2_with fail
      generalize w.alloc (.cells (byteVals p).toArray 38) = w1 at HQ HD HO HR HS HLT ⊢
      refine HR.out.mono ?_
      rintro e w' ⟨rfl, rfl⟩
      go_wp2_with fail
      refine HS.out.mono ?_
      rintro e w2 ⟨rfl, hd2, ho2, hz2⟩
      go_wp2
      go_ret
      exact ⟨rfl, hd2, HO.out.trans (ho2.mono (by simp))⟩
  · have HW : Hid (Dk.writeE s i = Dk.reachE s i) := Lib.hid (by unfold Dk.writeE; rw [if_neg c])
    have HW2 : Hid (Dk.write s i p = s) := Lib.hid (by unfold Dk.write; rw [if_neg c])
    rw [HW.out, HW2.out]
    have hne2 : (Dk.reachE s i == 0) = false := by simpa using c
    have hne3 : (Dk.reachE s i != 0) = true := by simpa using c
    generalize Dk.reachE s i = E at HR hne2 hne3 ⊢
    clear c HW HW2
    go_enter Tryz.func90, Tryz.ntmps90
    go_wp2_with fail
    generalize w.alloc (.cells (byteVals p).toArray 38) = w1 at HQ HD HO HR HS HLT ⊢
    refine HR.out.mono ?_
    rintro e w' ⟨rfl, rfl⟩
    go_wp2
    go_ret
    exact ⟨rfl, HD.out, HO.out⟩
end Go.Proofs.YtppbiohjhnoagaaGreat

/-
  The contract of disk's torn: a page of which only a beginning was renewed.
-/
namespace Go.Proofs.YtppbiohjhnoagaaGreat
open Go.RowKit
open Dk (zeros zeros_length)

set_option maxRecDepth 100000 in
theorem info8s : (Tryz.prog.info? 5).map (·.size) = some 1 := by kernel_rfl
set_option maxRecDepth 100000 in
/-- a beginning of a page is laid over -/
theorem PageAt.start {w : World} {b : Nat} {p : List UInt8} (h : PageAt w b p) (q : List UInt8) (hq : q.length ≤ 64) : PageAt (w.setCells b 0 (byteVals q)) b (q ++ p.drop q.length) where
  len := by rw [List.length_append, List.length_drop, h.len]; omega
  range := fun j v hv => by
    rw [Nat.zero_add]
    unfold byteVals at hv
    rw [List.getElem?_map, List.getElem?_append] at hv
    by_cases hj : j < q.length
    · rw [if_pos hj] at hv
      have := World.rangeAt_setCells_same w b 0 (byteVals q) (by rw [byteVals_length]; exact fun i hi => h.free i (by omega))
      have := this j v (by unfold byteVals; rw [List.getElem?_map]; exact hv)
      rwa [Nat.zero_add] at this
    · rw [if_neg hj, List.getElem?_drop, show q.length + (j - q.length) = j by omega] at hv
      rw [World.cell?_setCells_out b (byteVals q) 0 w ⟨b, j, none⟩ (fun _ _ => by rw [byteVals_length]; show j < 0 ∨ 0 + q.length ≤ j; omega)]
      have := h.range j v (by unfold byteVals; rw [List.getElem?_map]; exact hv)
      rwa [Nat.zero_add] at this
  free := World.there_setCells h.free _ _ _
set_option maxRecDepth 100000 in
theorem run_slice_page_to (w : World) (b k : Nat) (h : k ≤ 64) :
    (Instr.sliceAt 38 (.pointer (some ⟨b, 0, none⟩)) none (some (.int .i64 (k : Int))) none).run Tryz.prog w = .ok (.slice (some ⟨b, 0, none⟩) k 64) w := by
  rw [run_sliceAt_array_h w _ _ underP .i64 (k : Int) (by omega) (by rw [arrP]; omega), elemP, run_size8, arrP, Result.andThen_ok]
  unfold slicedAt
  rw [if_neg (by omega), Nat.zero_mul, Addr.add_mid]
  simp
set_option maxRecDepth 100000 in
theorem torn_start (w : World) (p q : List UInt8) (hp : p.length = 64) (hq : q.length = 64) :
    PageAt (((w.alloc (.cells (byteVals p).toArray 38)).alloc (.cells (byteVals q).toArray 38)).alloc (.cells zeroCells 38)) w.heap.size p ∧
    PageAt (((w.alloc (.cells (byteVals p).toArray 38)).alloc (.cells (byteVals q).toArray 38)).alloc (.cells zeroCells 38)) (w.heap.size + 1) q ∧
    PageAt (((w.alloc (.cells (byteVals p).toArray 38)).alloc (.cells (byteVals q).toArray 38)).alloc (.cells zeroCells 38)) (w.heap.size + 1 + 1) zeros ∧
    Below w.heap.size w (((w.alloc (.cells (byteVals p).toArray 38)).alloc (.cells (byteVals q).toArray 38)).alloc (.cells zeroCells 38)) := by
  refine ⟨((pageAt_new w p _ hp).alloc _).alloc _, ?_, ?_, (((Below.refl _ _).alloc (Nat.le_refl _) _).alloc (by simp) _).alloc (by simp; omega) _⟩
  · have := (pageAt_new (w.alloc (.cells (byteVals p).toArray 38)) q 38 hq).alloc (.cells zeroCells 38)
    simpa using this
  · have := pageAt_zeros ((w.alloc (.cells (byteVals p).toArray 38)).alloc (.cells (byteVals q).toArray 38)) 38
    simpa using this
set_option maxRecDepth 100000 in
set_option maxHeartbeats 1000000 in
theorem torn_any (p q : List UInt8) (c : UInt8) (w : World) (hp : p.length = 64) (hq : q.length = 64) :
    Calls Tryz.prog 42 #[pageV p, pageV q, .int .u8 (c.toNat : Int)] w fun e w' => e = .returned (pageV (Dk.torn p q c)) ∧ Below w.heap.size w w' := by
  have HS := Lib.hid (torn_start w p q hp hq)
  have hc := c.toNat_lt
  have hk65 : c.toNat % 65 < 65 := Nat.mod_lt _ (by omega)
  obtain ⟨k, hk⟩ : ∃ k : Nat, (IntKind.i64.wrap (c.toNat : Int)).tmod 65 = (k : Int) ∧ k ≤ 64 ∧ c.toNat % 65 = k := ⟨c.toNat % 65, by rw [IntWalk.i64_in _ (by omega), Int.tmod_eq_emod_of_nonneg (by omega)]; omega, by omega, rfl⟩
  obtain ⟨hk1, hk2, hk3⟩ := hk
  have hql : (q.take k).length = k := by rw [List.length_take]; omega
  have HT : Hid (Dk.torn p q c = q.take k ++ p.drop (q.take k).length) := Lib.hid (by unfold Dk.torn; rw [hk3, hql])
  have HQ := Lib.hid hql
  have HC := Lib.hid (fun (W : World) (ty : TypeId) (hW1 : PageAt W w.heap.size p) (hW2 : PageAt W (w.heap.size + 1) q) => run_copy_cells (P := Tryz.prog) W 39 39 ty 5 w.heap.size 0 k 64 ⟨w.heap.size + 1, 0, none⟩ 64 64 (byteVals (q.take k)) Tryz.underlying39 info8s
    (by rw [byteVals_length, hql]; exact (Nat.min_eq_right hk2).symm)
    (fun j v hv => by
      rw [Addr.add_mid]
      unfold byteVals at hv
      rw [List.getElem?_map, List.getElem?_take] at hv
      by_cases hj : j < k
      · rw [if_pos hj] at hv
        exact hW2.range j v (by unfold byteVals; rw [List.getElem?_map]; exact hv)
      · rw [if_neg hj] at hv; cases hv)
    (fun j hj => (hW1.free j (by rw [byteVals_length, hql] at hj; omega)).1) (fun j hj => (hW1.free j (by rw [byteVals_length, hql] at hj; omega)).2) (byteVals_one _))
  have hsl := fun (W : World) => run_slice_page_to W w.heap.size k hk2
  have hsl2 := fun (W : World) => run_slice_page_all W (w.heap.size + 1)
  clear hp hq hk3 hql hk65
  generalize Dk.torn p q c = r at HT ⊢
  unfold pageV
  go_enter Tryz.func42, Tryz.ntmps42
  go_wp2_with fail
  rw [← zeroCells_def]
  generalize ((w.alloc (.cells (byteVals p).toArray 38)).alloc (.cells (byteVals q).toArray 38)).alloc (.cells zeroCells 38) = w1 at HS ⊢
  refine wp_region_still_tail 5 (by kernel_rfl) (by kernel_rfl) ?_
  simp only [List.take_succ_cons, List.take_zero, List.drop_succ_cons, List.drop_zero]
  change wpStill _ _ w1.drew (fun a' => wpList _ _ _ _ a' w1.drew) _ _
  still_step
  still_step
  still_step
  still_step
  still_step
  refine wpStill_nil ?_
  refine Lib.wpList_copy_run _ rfl (.tmp 10) (.tmp 11) 39 39 rfl _ _ rfl rfl (HC.out w1.drew _ (HS.out.1.block rfl) (HS.out.2.1.block rfl)) ?_
  have HP2 := Lib.hid ((HS.out.1.block (w' := w1.drew) rfl).start (q.take k) (by rw [HQ.out]; exact hk2))
  have HP3 := Lib.hid ((HS.out.2.2.1.block (w' := w1.drew) rfl).put_other w.heap.size 0 (byteVals (q.take k)) (by omega))
  have HB := Lib.hid (below_setCells w.heap.size (Nat.le_refl _) (byteVals (q.take k)) 0 _ HS.out.2.2.2.drew)
  have HL := Lib.hid HP2.out.len
  generalize (w1.drew.setCells w.heap.size 0 (byteVals (q.take k))) = w2 at HP2 HP3 HB ⊢
  rw [← HT.out] at HP2 HL
  clear hsl hsl2 hk1
  go_wp2_with (first
    | (with_reducible refine wpList_load_page HP2.out rfl (.tmp 3) rfl rfl ?_)
    | (with_reducible refine wpList_store_page HP3.out HL.out rfl (.tmp 6) (.tmp 13) rfl rfl rfl ?_))
  exact bodyPost_ret (results_page _ 6 rfl _ (HP3.out.put _ HL.out) rfl) rfl ⟨rfl, below_setCells _ (by omega) _ _ _ HB.out⟩
end Go.Proofs.YtppbiohjhnoagaaGreat

/-
  The contract of disk's Flush.
-/
namespace Go.Proofs.YtppbiohjhnoagaaGreat
open Go.RowKit Go.Maps
open Dk (zeros zeros_length)

/-- what lasts while some of the cache is still to come -/
def mixL (s : Dk.St) (left : Nat → Bool) : List (List UInt8) := (List.range s.last.length).map fun i => if left i then Dk.lastAt s i else Dk.nowAt s i
set_option maxRecDepth 100000 in
theorem mixL_length (s : Dk.St) (left : Nat → Bool) : (mixL s left).length = s.last.length := by unfold mixL; simp
set_option maxRecDepth 100000 in
theorem mixL_at (s : Dk.St) (left : Nat → Bool) (i : Nat) (hi : i < s.last.length) : (mixL s left)[i]? = some (if left i then Dk.lastAt s i else Dk.nowAt s i) := by
  unfold mixL
  rw [List.getElem?_map, List.getElem?_range hi]; rfl
set_option maxRecDepth 100000 in
theorem mixL_start (s : Dk.St) (left : Nat → Bool) (h : ∀ i, i < s.last.length → left i = false → Dk.cacheAt s i = none) : mixL s left = s.last := by
  apply List.ext_getElem?
  intro i
  by_cases hi : i < s.last.length
  · rw [mixL_at s left i hi]
    have hl : s.last[i]? = some (Dk.lastAt s i) := by unfold Dk.lastAt; rw [List.getD_eq_getElem?_getD, List.getElem?_eq_getElem hi]; rfl
    rw [hl]
    cases e : left i with
    | true => rfl
    | false =>
      have := h i hi e
      simp [Dk.nowAt, this]
  · rw [List.getElem?_eq_none (by rw [mixL_length]; omega), List.getElem?_eq_none (by omega)]
set_option maxRecDepth 100000 in
theorem mixL_end (s : Dk.St) (left : Nat → Bool) (h : ∀ i, left i = false) : mixL s left = (Dk.flushed s).last := by
  unfold mixL Dk.flushed
  apply List.map_congr_left
  intro i _
  rw [h i]; rfl
set_option maxRecDepth 100000 in
theorem mixL_step (s : Dk.St) (left left' : Nat → Bool) (i : Nat) (p : List UInt8) (hi : i < s.last.length) (hp : Dk.cacheAt s i = some p) (h1 : left' i = false) (h2 : ∀ j, j ≠ i → left' j = left j) : (mixL s left).set i p = mixL s left' := by
  apply List.ext_getElem?
  intro j
  rw [List.getElem?_set]
  by_cases e : i = j
  · subst e
    rw [if_pos rfl, if_pos (by rw [mixL_length]; exact hi), mixL_at s left' i hi, h1]
    simp [Dk.nowAt, hp]
  · rw [if_neg e]
    by_cases hj : j < s.last.length
    · rw [mixL_at s left j hj, mixL_at s left' j hj, h2 j (fun q => e q.symm)]
    · rw [List.getElem?_eq_none (by rw [mixL_length]; omega), List.getElem?_eq_none (by rw [mixL_length]; omega)]

set_option maxRecDepth 100000 in
theorem Only.newer {l : List Nat} {b : Nat} {a w w' : World} (h : Only l a w) (k : Only [b] w w') (hb : a.heap.size ≤ b) : Only l a w' :=
  ⟨k.os.trans h.os, k.tape.trans h.tape, k.output.trans h.output, Nat.le_trans h.size k.size, fun i hi hn => (k.block i (Nat.lt_of_lt_of_le hi h.size) (by simp; omega)).trans (h.block i hi hn)⟩

/-- the loop over the cache -/
structure FlushAt (w1 : World) (l m r : Nat) (s : Dk.St) (D : DataW (List UInt8)) (left : Lit → Bool) (cnt : Nat) (w : World) : Prop where
  rg : w.ranges Tryz.prog 3 pageR m r (Maps.size D) D left cnt
  rows : RowsAt w l (mixL s (fun i => left (.int .i64 (i : Int))))
  only : Only [l] w1 w
  sub : ∀ kl, left kl = true → Maps.has D kl = true
set_option maxRecDepth 100000 in
theorem invK : ∀ key kl, keyOf Tryz.prog 3 key = some kl → ∃ x, key = Value.int .i64 x := fun key kl h => by
  obtain ⟨x, rfl, _⟩ := Maps.keyOf_int_inv Tryz.underlying3 h
  exact ⟨x, rfl⟩
set_option maxRecDepth 100000 in
theorem invV : ∀ v (y : DataW (List UInt8) × List MemPlace), pageR v = some y → ∃ c, v = pageV c := fun v y h => by
  obtain ⟨p, _, rfl, _⟩ := pageR_inv h
  exact ⟨p, rfl⟩
set_option maxRecDepth 100000 in
/-- what has come: a page of the cache -/
theorem came {s : Dk.St} (hok : s.Ok) {D : DataW (List UInt8)} (hD : MapIs D s.cache) {x : Int} {c : List UInt8} {kl : Lit} {y : DataW (List UInt8) × List MemPlace} (hkey : keyOf Tryz.prog 3 (.int .i64 x) = some kl) (hl : Maps.has D kl = true) (hv : pageR (pageV c) = some y) (hat : ∀ zd, D.atKey kl zd = y.1) :
    ∃ i : Nat, x = (i : Int) ∧ kl = .int .i64 (i : Int) ∧ i < s.last.length ∧ Dk.cacheAt s i = some c ∧ c.length = 64 := by
  obtain ⟨x', ex, rfl, _⟩ := Maps.keyOf_int_inv Tryz.underlying3 hkey
  injection ex with _ ex
  subst ex
  rw [hD.has] at hl
  have h0 : 0 ≤ x ∧ (s.cache.getD x.toNat none).isSome = true := by simpa using hl
  obtain ⟨i, rfl⟩ := Int.eq_ofNat_of_zero_le h0.1
  rw [Int.toNat_natCast] at h0
  obtain ⟨p, hp⟩ := Option.isSome_iff_exists.1 h0.2
  obtain ⟨q, hq, e1, e2⟩ := pageR_inv hv
  have hcq := pageV_inj e1
  have := hD.held i p hp .nil
  rw [hat, e2] at this
  injection this with this
  refine ⟨i, rfl, rfl, ?_, ?_, by rw [hcq]; exact hq⟩
  · rw [List.getD_eq_getElem?_getD] at hp
    rw [← hok.same]
    by_cases hi : i < s.cache.length
    · exact hi
    · rw [List.getElem?_eq_none (by omega)] at hp; cases hp
  · unfold Dk.cacheAt; rw [hp, hcq, this]
set_option maxRecDepth 100000 in
theorem flush_loop_start {w1 w2 : World} {d l m r : Nat} {s : Dk.St} (h : DiskAt w1 d l m s) {D : DataW (List UInt8)} (hD : MapIs D s.cache) (hrg : w2.ranges Tryz.prog 3 pageR m r (Maps.size D) D (Maps.has D) (Maps.size D)) (hg : w1.grownBy w2 none) :
    FlushAt w1 l m r s D (Maps.has D) (Maps.size D) w2 where
  rg := hrg
  rows := by
    rw [mixL_start s _ (fun i hi e => by
      rw [hD.has] at e
      cases hc : Dk.cacheAt s i with
      | none => rfl
      | some p =>
        have : s.cache.getD i none = some p := hc
        rw [Int.toNat_natCast, this] at e
        simp at e)]
    exact h.rows.block (hg.block l h.llt (by simp))
  only := Only.grownNone hg
  sub := fun _ h => h
set_option maxRecDepth 100000 in
theorem flush_next {w1 w w' : World} {l m r : Nat} {s : Dk.St} {D : DataW (List UInt8)} {left : Lit → Bool} {cnt cnt' : Nat} {i : Nat} {p : List UInt8} (h : FlushAt w1 l m r s D left cnt w) (hr : w1.heap.size ≤ r) (hl : l < w1.heap.size) (_hm : m < w1.heap.size) (hlm : l ≠ m)
    (hrg : w'.ranges Tryz.prog 3 pageR m r (Maps.size D) D (fun z => left z && !z.sameKey (.int .i64 (i : Int))) cnt') (hg : w.grownBy w' (some r)) (hi : i < s.last.length) (hp : Dk.cacheAt s i = some p) (hpl : p.length = 64) {w2 : World} (hb : Below w'.heap.size w' w2) :
    RowsAt w2 l (mixL s (fun i => left (.int .i64 (i : Int)))) ∧ FlushAt w1 l m r s D (fun z => left z && !z.sameKey (.int .i64 (i : Int))) cnt' (w2.setCells l (i * 64) (byteVals p)) ∧ Only [l] w1 w2 := by
  have ho : Only [l] w1 w2 := (h.only.newer (Only.grown hg (by simp)) hr).trans (Only.below hb)
  have hlw : l < w'.heap.size := Nat.lt_of_lt_of_le (Nat.lt_of_lt_of_le hl h.only.size) hg.size
  have hrow : RowsAt w2 l (mixL s (fun i => left (.int .i64 (i : Int)))) :=
    (h.rows.block (hg.block l (Nat.lt_of_lt_of_le hl h.only.size) (fun e => by injection e with e; omega))).block (hb.block l hlw)
  refine ⟨hrow, ⟨?_, ?_, Only.setCells l (by simp) _ _ _ ho, fun kl e => h.sub kl (by simp at e; exact e.1)⟩, ho⟩
  · have h1 : w2.ranges Tryz.prog 3 pageR m r (Maps.size D) D (fun z => left z && !z.sameKey (.int .i64 (i : Int))) cnt' :=
      hrg.kept (row := none) ⟨hb.os, hb.tape, hb.output, hb.size, fun k hk _ => hb.block k hk⟩ (by simp) (by simp)
    have hrl : r ≠ l := by omega
    refine h1.kept (row := some l) ⟨?_, ?_, ?_, ?_, ?_⟩ (fun e => by injection e with e; exact hlm e.symm) (fun e => by injection e with e; exact hrl e)
    · exact (Only.setCells (a := w2) l (l := [l]) (by simp) (byteVals p) (i * 64) w2 (Only.refl _ _)).os
    · exact (Only.setCells (a := w2) l (l := [l]) (by simp) (byteVals p) (i * 64) w2 (Only.refl _ _)).tape
    · exact (Only.setCells (a := w2) l (l := [l]) (by simp) (byteVals p) (i * 64) w2 (Only.refl _ _)).output
    · exact (Only.setCells (a := w2) l (l := [l]) (by simp) (byteVals p) (i * 64) w2 (Only.refl _ _)).size
    · intro k hk hn
      exact heap_setCells_other l _ _ _ k (fun e => hn (by rw [e]))
  · have := hrow.put i (by rw [mixL_length]; exact hi) p hpl
    rw [mixL_step s _ (fun j => left (.int .i64 (j : Int)) && !(Lit.int .i64 (j : Int)).sameKey (.int .i64 (i : Int))) i p hi hp (by simp [Lit.sameKey]) (fun j hj => by
      have hne : (j : Int) ≠ (i : Int) := by omega
      simp [Lit.sameKey, hne])] at this
    exact this
set_option maxRecDepth 100000 in
theorem flush_end {w1 w w' : World} {d l m r : Nat} {s : Dk.St} (h1 : DiskAt w1 d l m s) {D : DataW (List UInt8)} {left : Lit → Bool} {cnt : Nat} (h : FlushAt w1 l m r s D left cnt w) (hleft : ∀ kl, left kl = false)
    (hm : MapAt w' m (List.replicate s.last.length none)) (ht : w.mapTurned w' m) : DiskAt w' d l m (Dk.flushed s) ∧ Only [l, m] w1 w' := by
  have hd : w'.heap[d]? = w1.heap[d]? := (ht.grown.block d (Nat.lt_of_lt_of_le h1.dlt h.only.size) (fun e => h1.dm (by injection e))).trans (h.only.block d h1.dlt (by simpa using h1.dl))
  have hrow : RowsAt w' l (Dk.flushed s).last := by
    rw [← mixL_end s (fun i => left (.int .i64 (i : Int))) (fun i => hleft _)]
    exact h.rows.block (ht.grown.block l (Nat.lt_of_lt_of_le h1.llt h.only.size) (fun e => h1.lm (by injection e)))
  have hlen : (Dk.flushed s).last.length = s.last.length := by unfold Dk.flushed; simp
  refine ⟨?_, (h.only.mono (by simp)).trans (Only.grown ht.grown (by simp))⟩
  exact { ok := Dk.flushed_ok h1.ok, dl := h1.dl, dm := h1.dm, lm := h1.lm
          c0 := (World.cell?_of_block (w := w1) (a := ⟨d, 0, none⟩) hd).trans h1.c0
          c1 := (World.cell?_of_block (w := w1) (a := ⟨d, 1, none⟩) hd).trans h1.c1
          c2 := (World.cell?_of_block (w := w1) (a := ⟨d, 2, none⟩) hd).trans h1.c2
          c3 := by rw [hlen]; exact (World.cell?_of_block (w := w1) (a := ⟨d, 3, none⟩) hd).trans h1.c3
          c4 := (World.cell?_of_block (w := w1) (a := ⟨d, 4, none⟩) hd).trans h1.c4
          f0 := (World.frozen?_of_block (w := w1) (a := ⟨d, 0, none⟩) hd).trans h1.f0
          f1 := (World.frozen?_of_block (w := w1) (a := ⟨d, 1, none⟩) hd).trans h1.f1
          f2 := (World.frozen?_of_block (w := w1) (a := ⟨d, 2, none⟩) hd).trans h1.f2
          rows := hrow, map := hm }
end Go.Proofs.YtppbiohjhnoagaaGreat

/-
  The contract of disk's Flush: the walk.
-/
namespace Go.Proofs.YtppbiohjhnoagaaGreat
open Go.RowKit Go.Maps
open Dk (zeros zeros_length)

set_option maxRecDepth 100000 in
theorem flush_nil (w : World) : Calls Tryz.prog 91 #[.pointer none] w fun e w' => e = .returned (.int .i64 5) ∧ w = w' := by
  go_enter Tryz.func91, Tryz.ntmps91
  go_wp2_with (go_at_call 45; refine (down_nil _).mono ?_; rintro e w' ⟨rfl, rfl⟩)
  go_ret
  exact ⟨rfl, rfl⟩
set_option maxRecDepth 100000 in
set_option maxHeartbeats 2000000 in
theorem flush_any {w : World} {d l m : Nat} {s : Dk.St} (h : DiskAt w d l m s) : Calls Tryz.prog 91 #[.pointer (some ⟨d, 0, none⟩)] w fun e w' =>
    e = .returned (.int .i64 (Dk.flushE s)) ∧ DiskAt w' d l m (Dk.flush s) ∧ Only [d, l, m] w w' := by
  have HD := Lib.hid h
  have HW := Lib.hid (down_any h)
  have HS := Lib.hid (spend_any h)
  cases hdn : s.down with
  | true =>
    have HE : Hid (Dk.flushE s = 5) := Lib.hid (by unfold Dk.flushE; rw [if_pos hdn])
    have HF : Hid (Dk.flush s = s) := Lib.hid (by unfold Dk.flush; rw [if_pos hdn])
    rw [HE.out, HF.out]
    rw [hdn] at HW
    clear h hdn
    go_enter Tryz.func91, Tryz.ntmps91
    go_wp2_with (go_at_call 45; refine HW.out.mono ?_; rintro e w' ⟨rfl, rfl⟩)
    go_ret
    exact ⟨rfl, HD.out, Only.refl _ _⟩
  | false =>
    rw [hdn] at HW
    have hnd : ¬ s.down = true := by rw [hdn]; simp
    have HE : Hid (Dk.flushE s = Dk.spendE s) := Lib.hid (by unfold Dk.flushE; rw [if_neg hnd])
    by_cases e0 : Dk.spendE s = 0
    · have HF : Hid (Dk.flush s = Dk.flushed (Dk.spend s)) := Lib.hid (by unfold Dk.flush; rw [if_neg hnd, if_pos e0])
      rw [HE.out, HF.out, e0]
      rw [e0] at HS
      clear h hdn hnd e0 HE HF
      generalize Dk.spend s = s1 at HS ⊢
      go_enter Tryz.func91, Tryz.ntmps91
      go_wp2_with fail
      refine HW.out.mono ?_
      rintro e w' ⟨rfl, rfl⟩
      go_wp2_with fail
      refine HS.out.mono ?_
      rintro e w1 ⟨rfl, hd1, ho1, hz1⟩
      have HD1 := Lib.hid hd1
      have HO1 := Lib.hid ho1
      have c4 := hd1.c4
      obtain ⟨D, hown, hD⟩ := hd1.map
      have HM := Lib.hid hD
      have HL := Lib.hid hd1.llt
      have HMM := Lib.hid hd1.mlt
      clear hd1 ho1 hz1 hD HW HS HD
      go_wp2_with (at_range; refine wpList_range_own _ rfl _ 65 rfl 3 38 keyLaw Tryz.underlying65 pageR m (Maps.size D) D rfl hown ?_; intro w0 hrg0 hg0 hs0)
      go_frame
      have HST := Lib.hid (flush_loop_start HD1.out HM.out hrg0 hg0)
      clear hrg0 hg0 hs0 hown
      go_loopw [20] (fun _ wr => ∃ (left : Lit → Bool) (cnt : Nat), FlushAt w1 l m w1.heap.size s1 D left cnt wr) (fun _ wr => wr.rangeLeft m w1.heap.size)
      case atStart => exact ⟨_, _, HST.out⟩
      case round =>
        obtain ⟨left, cnt, hfl⟩ := hrel
        have HFL := Lib.hid hfl
        have hrg := hfl.rg
        clear hfl HST
        go_wp2_with (at_next; refine wpList_next_ranges _ rfl _ rfl 3 keyLaw pageR (Value.int .i64) pageV invK invV m w1.heap.size (Maps.size D) D left cnt rfl hrg ?_ ?_)
        · intro _ hl0
          have HL0 := Lib.hid hl0
          clear hl0
          have c4' : wr.cell? ⟨d, 4, none⟩ = some (.map (some m)) := (HFL.out.only.cell (p := ⟨d, 4, none⟩) HD1.out.dlt (by simpa using HD1.out.dl)).trans c4
          obtain ⟨w2, hcl0, hmp, htn⟩ := MapAt.clear (w := wr) (b := m) (c := s1.cache) ⟨D, tight hrg.owns, HM.out⟩ s1.last.length 0
          have hcl : ∀ ty, (Builtin.clear_ #[65] ty #[.map (some m)]).run Tryz.prog wr = .ok (.tuple #[]) w2 := fun ty => hcl0
          clear hcl0
          go_wp2
          go_ret
          obtain ⟨q1, q2⟩ := flush_end HD1.out HFL.out HL0.out hmp htn
          exact ⟨rfl, q1, (HO1.out.mono (by simp)).trans (q2.mono (by simp))⟩
        · intro x c kl y1 y2 w2 cnt2 hkey hlx hv hat hrg2 hlt hg2 hs2 hen
          obtain ⟨i, rfl, rfl, hi, hci, hcl⟩ := came (y := (y1, y2)) HD1.out.ok HM.out hkey (HFL.out.sub _ hlx) hv hat
          have HI := Lib.hid hi
          have HCI := Lib.hid hci
          have HCL := Lib.hid hcl
          have hilen : (i : Int) < (s1.last.length : Int) := by omega
          have hi0 : (0 : Int) ≤ (i : Int) := by omega
          have HNX := Lib.hid (fun (W : World) (hb : Below w2.heap.size w2 W) => flush_next (w2 := W) HFL.out (Nat.le_refl _) HL.out HMM.out HD1.out.lm hrg2 hg2 hi hci hcl hb)
          have HLT := Lib.hid hlt
          clear hkey hlx hv hat hci hcl hi hs2 hlt hg2
          go_wp2_with (first
            | ((with_reducible refine wpList_store_new rfl (.tmp 5) (.tmp 24) rfl rfl ?_ ?_ HCL.out ?_); (exact rfl); (exact rfl); intro W2 hP hB2 hz2))
          have HQ := Lib.hid (HNX.out W2.drew hB2.drew)
          have c3'' : W2.drew.cell? ⟨d, 3, none⟩ = some (.slice (some ⟨l, 0, none⟩) s1.last.length s1.last.length) := (HQ.out.2.2.cell (p := ⟨d, 3, none⟩) HD1.out.dlt (by simpa using HD1.out.dl)).trans HD1.out.c3
          have HPP := Lib.hid hP
          clear hen hB2 hz2 hP
          refine wp_region_still_tail 7 (by kernel_rfl) (by kernel_rfl) ?_
          simp only [List.take_succ_cons, List.take_zero, List.drop_succ_cons, List.drop_zero]
          change wpStill _ _ W2.drew (fun a' => wpList _ _ _ _ a' W2.drew) _ _
          still_step
          still_step
          still_step
          still_step
          still_step
          refine wpStill_load_page (HPP.out.block rfl) rfl (.tmp 5) rfl rfl ?_
          still_step
          refine wpStill_nil ?_
          refine wpList_store_row HQ.out.1 i (by rw [mixL_length]; exact HI.out) HCL.out rfl (.tmp 31) (.tmp 30) rfl rfl rfl ?_
          go_frame
          go_wp2
          go_roundw
          case rel => exact ⟨_, _, HQ.out.2.1⟩
          case measure => rw [HQ.out.2.1.rg.left_eq, hrg.left_eq]; exact HLT.out
    · have HF : Hid (Dk.flush s = Dk.spend s) := Lib.hid (by unfold Dk.flush; rw [if_neg hnd, if_neg e0])
      rw [HE.out, HF.out]
      have hne2 : (Dk.spendE s == 0) = false := by simpa using e0
      have hne3 : (Dk.spendE s != 0) = true := by simpa using e0
      generalize Dk.spendE s = E at HS hne2 hne3 ⊢
      clear h hdn hnd e0 HE HF
      go_enter Tryz.func91, Tryz.ntmps91
      go_wp2_with fail
      refine HW.out.mono ?_
      rintro e w' ⟨rfl, rfl⟩
      go_wp2_with fail
      refine HS.out.mono ?_
      rintro e w1 ⟨rfl, hd1, ho1, hz1⟩
      go_wp2
      go_ret
      exact ⟨rfl, hd1, ho1.mono (by simp)⟩
end Go.Proofs.YtppbiohjhnoagaaGreat

/-
  The contract of disk's Crash.
-/
namespace Go.Proofs.YtppbiohjhnoagaaGreat
open Go.RowKit Go.Maps
open Dk (zeros zeros_length)

/-- bytes in a slice, in none of some blocks -/
structure KeepAt (w : World) (A : Option Addr) (c : Nat) (keep : List UInt8) (L : List Nat) : Prop where
  small : keep.length ≤ 1000
  room : keep.length ≤ c
  cells : 0 < keep.length → ∃ kb ko, A = some ⟨kb, ko, none⟩ ∧ kb < w.heap.size ∧ kb ∉ L ∧ ∀ j, j < keep.length → w.cell? ⟨kb, ko + j, none⟩ = some (.int .u8 ((keep.getD j 0).toNat : Int))
set_option maxRecDepth 100000 in
theorem KeepAt.only {w w' : World} {A : Option Addr} {c : Nat} {keep : List UInt8} {L L' : List Nat} (h : KeepAt w A c keep L) (ho : Only L' w w') (hL : ∀ k ∈ L', k ∈ L) : KeepAt w' A c keep L :=
  ⟨h.small, h.room, fun h0 => by
    obtain ⟨kb, ko, e, h1, h2, h3⟩ := h.cells h0
    exact ⟨kb, ko, e, Nat.lt_of_lt_of_le h1 ho.size, h2, fun j hj => (ho.cell (p := ⟨kb, ko + j, none⟩) h1 (fun q => h2 (hL _ q))).trans (h3 j hj)⟩⟩
set_option maxRecDepth 100000 in
theorem KeepAt.below {w w' : World} {A : Option Addr} {c : Nat} {keep : List UInt8} {L : List Nat} (h : KeepAt w A c keep L) (hb : Below w.heap.size w w') : KeepAt w' A c keep L := h.only (L' := []) (Only.below hb) (by simp)
/-- the loop's state -/
structure CrashAt (w : World) (l : Nat) (s : Dk.St) (keep : List UInt8) (k : Nat) (wr : World) : Prop where
  rows : RowsAt wr l (Dk.crashTo s keep k).1
  only : Only [l] w wr
/-- the choices that are left -/
def RestV (kb ko : Nat) (keep r : List UInt8) (v : Value) : Prop := ∃ j M A c, j + M = keep.length ∧ r = keep.drop j ∧ v = .slice A M c ∧ M ≤ c ∧ (0 < M → A = some ⟨kb, ko + j, none⟩)

set_option maxRecDepth 100000 in
theorem DiskAt.renew {w w' : World} {d l m : Nat} {s : Dk.St} (h : DiskAt w d l m s) (hd : w'.heap[d]? = w.heap[d]?) {last : List (List UInt8)} {cache : List (Option (List UInt8))} (hl : last.length = s.last.length) (hr : RowsAt w' l last) (hm : MapAt w' m cache)
    (hok : Dk.St.Ok { s with last := last, cache := cache }) : DiskAt w' d l m { s with last := last, cache := cache } :=
  { ok := hok, dl := h.dl, dm := h.dm, lm := h.lm
    c0 := (World.cell?_of_block (w := w) (a := ⟨d, 0, none⟩) hd).trans h.c0
    c1 := (World.cell?_of_block (w := w) (a := ⟨d, 1, none⟩) hd).trans h.c1
    c2 := (World.cell?_of_block (w := w) (a := ⟨d, 2, none⟩) hd).trans h.c2
    c3 := (World.cell?_of_block (w := w) (a := ⟨d, 3, none⟩) hd).trans (by show _ = some (Value.slice _ last.length last.length); rw [hl]; exact h.c3)
    c4 := (World.cell?_of_block (w := w) (a := ⟨d, 4, none⟩) hd).trans h.c4
    f0 := (World.frozen?_of_block (w := w) (a := ⟨d, 0, none⟩) hd).trans h.f0
    f1 := (World.frozen?_of_block (w := w) (a := ⟨d, 1, none⟩) hd).trans h.f1
    f2 := (World.frozen?_of_block (w := w) (a := ⟨d, 2, none⟩) hd).trans h.f2
    rows := hr, map := hm }
set_option maxRecDepth 100000 in
theorem crash_end {w wr w2 : World} {d l m : Nat} {s : Dk.St} (h : DiskAt w d l m s) {keep : List UInt8} {k : Nat} (hc : CrashAt w l s keep k wr) (hfin : Dk.crashTo s keep s.last.length = Dk.crashTo s keep k)
    (hm : MapAt w2 m (List.replicate s.last.length none)) (ht : wr.mapTurned w2 m) :
    DiskAt w2 d l m { s with last := (Dk.crashTo s keep s.last.length).1, cache := List.replicate s.last.length none } ∧ Only [d, l, m] w w2 ∧ DiskAt (((w2.setCell ⟨d, 0, none⟩ (.bool false)).setCell ⟨d, 1, none⟩ (.int .i64 0)).setCell ⟨d, 2, none⟩ (.bool false)) d l m (Dk.crash s keep) := by
  have hcr := Dk.crash_ok h.ok keep
  have hd : w2.heap[d]? = w.heap[d]? := (ht.grown.block d (Nat.lt_of_lt_of_le h.dlt hc.only.size) (fun e => h.dm (by injection e))).trans (hc.only.block d h.dlt (by simpa using h.dl))
  have hrow : RowsAt w2 l (Dk.crashTo s keep s.last.length).1 := by
    rw [hfin]
    exact hc.rows.block (ht.grown.block l (Nat.lt_of_lt_of_le h.llt hc.only.size) (fun e => h.lm (by injection e)))
  have h1 := h.renew hd (Dk.crashTo_len s keep s.last.length) hrow hm ⟨hcr.same, hcr.pos, hcr.small, hcr.pages, hcr.cpages, h.ok.lo, h.ok.hi, h.ok.live⟩
  refine ⟨h1, (hc.only.mono (by simp)).trans (Only.grown ht.grown (by simp)), ?_⟩
  exact (h1.setFuse false 0 ⟨hcr.same, hcr.pos, hcr.small, hcr.pages, hcr.cpages, by show _ ≤ (0 : Int); omega, by show (0 : Int) ≤ _; omega, fun e => by cases e⟩).setDown false
set_option maxRecDepth 100000 in
theorem crash_step {w wr W2 : World} {d l m : Nat} {s : Dk.St} (h : DiskAt w d l m s) {keep : List UInt8} {k : Nat} (hc : CrashAt w l s keep k wr) (hb : Below wr.heap.size wr W2) : CrashAt w l s keep k W2 :=
  ⟨hc.rows.block (hb.block l (Nat.lt_of_lt_of_le h.llt hc.only.size)), hc.only.trans (Only.below hb)⟩
set_option maxRecDepth 100000 in
theorem CrashAt.disk {w wr : World} {d l m : Nat} {s : Dk.St} (h : DiskAt w d l m s) {keep : List UInt8} {k : Nat} (hc : CrashAt w l s keep k wr) :
    wr.cell? ⟨d, 3, none⟩ = some (.slice (some ⟨l, 0, none⟩) s.last.length s.last.length) ∧ wr.cell? ⟨d, 4, none⟩ = some (.map (some m)) ∧ MapAt wr m s.cache :=
  ⟨(hc.only.cell (p := ⟨d, 3, none⟩) h.dlt (by simpa using h.dl)).trans h.c3, (hc.only.cell (p := ⟨d, 4, none⟩) h.dlt (by simpa using h.dl)).trans h.c4, h.map.block (hc.only.block m h.mlt (by simpa using Ne.symm h.lm))⟩
set_option maxRecDepth 100000 in
theorem crash_put {w W : World} {d l m : Nat} {s : Dk.St} (h : DiskAt w d l m s) {keep r : List UInt8} {k : Nat} {p : List UInt8} {c : UInt8} (hc : CrashAt w l s keep k W) (hk : k < s.last.length) (hp : Dk.cacheAt s k = some p) (hr : (Dk.crashTo s keep k).2 = c :: r) :
    CrashAt w l s keep (k + 1) (W.setCells l (k * 64) (byteVals (Dk.torn (Dk.lastAt s k) p c))) ∧ (Dk.crashTo s keep (k + 1)).2 = r := by
  have e : Dk.crashTo s keep (k + 1) = ((Dk.crashTo s keep k).1.set k (Dk.torn (Dk.lastAt s k) p c), r) := Dk.crashOne_some hp hr
  refine ⟨⟨?_, Only.setCells l (by simp) _ _ _ hc.only⟩, by rw [e]⟩
  rw [e]
  exact hc.rows.put k (by rw [Dk.crashTo_len]; exact hk) _ (Dk.torn_len c (Dk.lastAt_len h.ok hk) (Dk.cacheAt_len h.ok hp))
set_option maxRecDepth 100000 in
theorem run_slice_tail (A : Option Addr) (kb o K C : Nat) (hA : A = some ⟨kb, o, none⟩) (hKC : K ≤ C) : ∃ A', (∀ w : World, (Instr.slice 39 (.slice A (K + 1) (C + 1)) (some (.int .i64 1)) none none).run Tryz.prog w = .ok (.slice A' K C) w) ∧ (0 < K → A' = some ⟨kb, o + 1, none⟩) := by
  have eB : Tryz.prog.elem 39 = 5 := by kernel_rfl
  have uB : Tryz.prog.underlying 39 = some (.slice (Tryz.prog.elem 39)) := by rw [eB]; exact Tryz.underlying39
  refine ⟨if C + 1 = 1 then A else A.map (·.add (1 * 1)), fun w => ?_, fun h0 => ?_⟩
  · have := run_slice_l w 39 A (K + 1) (C + 1) uB .i64 1 (by omega) (by omega)
    rw [eB, run_size8, Result.andThen_ok] at this
    exact this
  show (if C + 1 = 1 then A else A.map (·.add (1 * 1))) = _
  rw [if_neg (by omega), hA]
  show some (Addr.add _ _) = _
  rw [Addr.add_mid]
set_option maxRecDepth 100000 in
theorem crash_nil (A : Option Addr) (n c : Nat) (w : World) : Calls Tryz.prog 21 #[.pointer none, .slice A n c] w fun e w' => e = .returned (.tuple #[]) ∧ w = w' := by
  go_enter Tryz.func21, Tryz.ntmps21
  go_wp2
  (try simp only [Exit.inBlock, Exit.then])
  refine bodyPost_ret (results_none rfl _ _ _) rfl ?_
  exact ⟨rfl, rfl⟩
end Go.Proofs.YtppbiohjhnoagaaGreat

/-
  Steps through a region that draws its order: an operation that is taken first; whole pages out of a row, and into it, where nothing else may come up.
-/
namespace Go.Proofs.YtppbiohjhnoagaaGreat
open Go.RowKit
open Dk (zeros zeros_length)

section
variable {ops : Array Oper} {Q : Exit → Act → World → Prop} {md : Region.Mode} {S : World → Prop}
set_option maxRecDepth 100000 in
/-- an operation of a region is taken first; the slot that it writes is named -/
theorem take_at {P : Program} {i : Nat} {oi : Oper} {v : Value} {fuel : Nat} {listed : Array Bool} {a : Act} {w : World} {d : Option Tmp} (hi : ops[i]? = some oi) (hd : oi.dst = d)
    (hs : Region.noSelect ops = true) (hf : Region.free md ops listed i = true) (hr : (Region.ready md ops listed).contains i = true)
    (hQ : ∀ c a w, Q (.panic c) (a.put oi.dst v) w → Q (.panic c) a w) (hy : YieldsIf P ops S oi v a) (hS : S w)
    (h : wpAnyH P md ops Q S fuel (listed.setIfInBounds i true) (a.put d v) w) : wpAnyH P md ops Q S (fuel + 1) listed a w :=
  wpAnyH_take hi hs hf hr hQ hy hS (hd ▸ h)
set_option maxRecDepth 100000 in
/-- a whole page, under S -/
theorem yields_page {oi : Oper} {a : Act} {b o : Nat} {p : List UInt8} (hw : Region.wanted oi (yielded ops a.tmps) = true) (x : Operand) (ho : oi.op = .load 38 x) (hx : a.eval x = .pointer (some ⟨b, o, none⟩)) (hp : p.length = 64) (hS : ∀ w, S w → w.rangeAt b o (byteVals p)) :
    YieldsIf Tryz.prog ops S oi (pageV p) a :=
  yieldsIf_load_mid hw 38 x ho b o hx (byteVals p) _ hS Tryz.underlying38 rfl (by rw [page_info, byteVals_length, hp])
set_option maxRecDepth 100000 in
theorem anyH_one {P : Program} {i : Nat} {oi : Oper} {fuel : Nat} {listed : Array Bool} {a : Act} {w : World} (hr : Region.ready md ops listed = [i]) (hi : ops[i]? = some oi) (hw : Region.wanted oi (yielded ops a.tmps) = true)
    (h : ∀ K : Act → World → Prop, (∀ a w, S w → wpAnyH P md ops Q S fuel (listed.setIfInBounds i true) a w → K a w) → Oper.wp P oi a w K Q) : wpAnyH P md ops Q S (fuel + 1) listed a w := by
  refine wpAnyH_ready hr (by simp) (AllReadyH.cons hi (fun K hK => ?_) AllReadyH.nil)
  rw [if_pos hw]
  exact h K (fun a w hS hW => hK.out a w hS (fun _ => hW))
set_option maxRecDepth 100000 in
theorem anyH_load_row {i : Nat} {oi : Oper} {fuel : Nat} {listed : Array Bool} {a : Act} {w : World} {b : Nat} {ps : List (List UInt8)} (h : RowsAt w b ps) (n : Nat) {p : List UInt8} (hn : ps[n]? = some p)
    (hr : Region.ready md ops listed = [i]) (hi : ops[i]? = some oi) (hw : Region.wanted oi (yielded ops a.tmps) = true) (x : Operand) (ho : oi.op = .load 38 x) (hx : a.eval x = .pointer (some ⟨b, n * 64, none⟩)) (d : Option Tmp) (hd : oi.dst = d) (hS : S w)
    (hK : wpAnyH Tryz.prog md ops Q S fuel (listed.setIfInBounds i true) (a.put d (pageV p)) w) : wpAnyH Tryz.prog md ops Q S (fuel + 1) listed a w :=
  anyH_one hr hi hw fun _ hK' => wp_load_mid 38 x ho b (n * 64) hx (byteVals p) _ (h.range n p hn) Tryz.underlying38 rfl (by rw [page_info, byteVals_length, h.size p (List.mem_of_getElem? hn)]) (hK' _ _ hS (hd ▸ hK))
set_option maxRecDepth 100000 in
theorem anyH_store_row {i : Nat} {oi : Oper} {fuel : Nat} {listed : Array Bool} {a : Act} {w : World} {b : Nat} {ps : List (List UInt8)} (h : RowsAt w b ps) (n : Nat) (hn : n < ps.length) {p : List UInt8} (hp : p.length = 64)
    (hr : Region.ready md ops listed = [i]) (hi : ops[i]? = some oi) (hw : Region.wanted oi (yielded ops a.tmps) = true) (x y : Operand) (ho : oi.op = .store 38 x y) (hx : a.eval x = .pointer (some ⟨b, n * 64, none⟩)) (hy : a.eval y = pageV p) (d : Option Tmp) (hd : oi.dst = d)
    (hS : S (w.setCells b (n * 64) (byteVals p)))
    (hK : wpAnyH Tryz.prog md ops Q S fuel (listed.setIfInBounds i true) (a.put d undef) (w.setCells b (n * 64) (byteVals p))) : wpAnyH Tryz.prog md ops Q S (fuel + 1) listed a w :=
  anyH_one hr hi hw fun _ hK' => wp_store_mid 38 x y ho b (n * 64) (byteVals p).toArray hx hy (by rw [List.size_toArray, byteVals_length, hp]; exact h.thereAt n hn) (by rw [page_info, List.size_toArray, byteVals_length, hp]) (all_oneCell_toArray (byteVals_one p)) (by
    rw [List.toList_toArray]
    exact hK' _ _ hS (hd ▸ hK))
set_option maxRecDepth 100000 in
/-- a call of a Go function, where nothing else may come up -/
theorem anyH_call {i : Nat} {oi : Oper} {fuel : Nat} {listed : Array Bool} {a : Act} {w : World} {f : Nat} {args : Array Value} {R : Ending → World → Prop} (hc : Calls Tryz.prog f args w R)
    (hr : Region.ready md ops listed = [i]) (hi : ops[i]? = some oi) (hw : Region.wanted oi (yielded ops a.tmps) = true) (hop : (execOp a.eval oi).run Tryz.prog w = .ok (.enter f args) w) (d : Option Tmp) (hd : oi.dst = d)
    (hK : ∀ e w', R e w' → ∃ v, e = .returned v ∧ S w' ∧ wpAnyH Tryz.prog md ops Q S fuel (listed.setIfInBounds i true) (a.put d v) w') : wpAnyH Tryz.prog md ops Q S (fuel + 1) listed a w :=
  anyH_one hr hi hw fun _ hK' => by
    unfold Oper.wp
    rw [hop]
    refine hc.mono fun e w' he => ?_
    obtain ⟨v, rfl, hS, h⟩ := hK e w' he
    exact hK' _ _ hS (hd ▸ h)
end
end Go.Proofs.YtppbiohjhnoagaaGreat

/-
  The contract of disk's Crash: the walk.
-/
namespace Go.Proofs.YtppbiohjhnoagaaGreat
open Go.RowKit Go.Maps
open Dk (zeros zeros_length)

set_option maxRecDepth 100000 in
theorem keepC {W W' : World} {d B kb o : Nat} {v u : Value} {p : List UInt8} (hb : Below W.heap.size W W') (h : W.cell? ⟨d, 3, none⟩ = some v ∧ PageAt W B p ∧ W.cell? ⟨kb, o, none⟩ = some u) :
    W'.cell? ⟨d, 3, none⟩ = some v ∧ PageAt W' B p ∧ W'.cell? ⟨kb, o, none⟩ = some u :=
  ⟨(hb.cell (p := ⟨d, 3, none⟩) (World.block_lt_of_cell? W _ h.1)).trans h.1, h.2.1.below hb h.2.1.lt, (hb.cell (p := ⟨kb, o, none⟩) (World.block_lt_of_cell? W _ h.2.2)).trans h.2.2⟩
set_option maxRecDepth 100000 in
theorem keepP {W : World} {d B kb o l i : Nat} {v u : Value} {p : List UInt8} {vs : List Value} (h : W.cell? ⟨d, 3, none⟩ = some v ∧ PageAt W B p ∧ W.cell? ⟨kb, o, none⟩ = some u) (h1 : d ≠ l) (h2 : B ≠ l) (h3 : kb ≠ l) :
    (W.setCells l i vs).cell? ⟨d, 3, none⟩ = some v ∧ PageAt (W.setCells l i vs) B p ∧ (W.setCells l i vs).cell? ⟨kb, o, none⟩ = some u :=
  ⟨(World.cell?_of_block (w := W) (a := ⟨d, 3, none⟩) (heap_setCells_other l vs i W d h1)).trans h.1, h.2.1.block (heap_setCells_other l vs i W B h2), (World.cell?_of_block (w := W) (a := ⟨kb, o, none⟩) (heap_setCells_other l vs i W kb h3)).trans h.2.2⟩
set_option maxRecDepth 100000 in
set_option maxHeartbeats 4000000 in
theorem crash_row {w : World} {d l m : Nat} {s : Dk.St} (h : DiskAt w d l m s) (A : Option Addr) (cp : Nat) (keep : List UInt8) (kb ko : Nat) (_hsm : keep.length ≤ 1000) (hroom : keep.length ≤ cp) (hA : 0 < keep.length → A = some ⟨kb, ko, none⟩)
    (hkc : ∀ j, j < keep.length → kb < w.heap.size ∧ kb ∉ [d, l, m] ∧ w.cell? ⟨kb, ko + j, none⟩ = some (.int .u8 ((keep.getD j 0).toNat : Int))) :
    Calls Tryz.prog 21 #[.pointer (some ⟨d, 0, none⟩), .slice A keep.length cp] w fun e w' =>
    e = .returned (.tuple #[]) ∧ DiskAt w' d l m (Dk.crash s keep) ∧ Only [d, l, m] w w' := by
  have HD := Lib.hid h
  have HK := Lib.hid hkc
  have HAA := Lib.hid hA
  have HR0 : Hid (RestV kb ko keep keep (.slice A keep.length cp)) := Lib.hid ⟨0, keep.length, A, cp, by omega, rfl, rfl, hroom, hA⟩
  have HN : Hid (s.last.length ≤ 512) := Lib.hid h.ok.small
  have hn := h.ok.small
  have c3 := h.c3
  clear h hkc hA
  go_enter Tryz.func21, Tryz.ntmps21
  go_wp2_with fail
  go_loopw [1, 14] (fun v i wr => ∃ k : Nat, k ≤ s.last.length ∧ i = .int .i64 k ∧ RestV kb ko keep (Dk.crashTo s keep k).2 v ∧ CrashAt w l s keep k wr) (fun _ i _ => s.last.length - (intOf i).toNat)
  case atStart => exact ⟨0, Nat.zero_le _, rfl, HR0.out, ⟨HD.out.rows, Only.refl _ _⟩⟩
  case round =>
    obtain ⟨k, hk, rfl, ⟨j, M, A1, c1, hjM, hr, rfl, hMc, hA1⟩, hcr⟩ := hrel
    have HC := Lib.hid hcr
    have HR := Lib.hid hr
    have HJM := Lib.hid hjM
    have HA1 := Lib.hid hA1
    clear hr hjM hA1
    obtain ⟨q3, q4, q5⟩ := hcr.disk HD.out
    clear hcr
    by_cases hlt : k < s.last.length
    · have hlook := q5.look k (by omega)
      have hk0 : (0 : Int) ≤ (k : Int) := by omega
      have hk1 : (k : Int) < (s.last.length : Int) := by omega
      clear q5
      cases hca : Dk.cacheAt s k with
      | none =>
        have HE : Hid (Dk.crashTo s keep (k + 1) = Dk.crashTo s keep k) := Lib.hid (Dk.crashOne_none hca)
        have hca' : s.cache.getD k none = none := hca
        rw [hca'] at hlook
        simp only [Option.getD_none, Option.isSome_none] at hlook
        clear hca hca'
        go_wp2_with ((with_reducible refine wpList_store_new rfl (.tmp 5) (.tmp 24) rfl rfl ?_ ?_ zeros_length ?_); (exact rfl); (exact rfl); intro W2 hP hB2 hz2; clear hlook q3 q4)
        go_roundw
        case rel =>
          refine ⟨k + 1, by omega, by go_num, ?_, ?_⟩
          · rw [HE.out]; exact ⟨j, M, A1, c1, HJM.out, HR.out, rfl, hMc, HA1.out⟩
          · have := crash_step HD.out HC.out hB2
            exact ⟨HE.out ▸ this.rows, this.only⟩
        case measure => simp [intOf]; omega
      | some p =>
        have hca' : s.cache.getD k none = some p := hca
        rw [hca'] at hlook
        simp only [Option.getD_some, Option.isSome_some] at hlook
        have HPL := Lib.hid (Dk.cacheAt_len HD.out.ok hca)
        have HCA := Lib.hid hca
        clear hca hca'
        cases M with
        | zero =>
          have HNIL : Hid ((Dk.crashTo s keep k).2 = []) := Lib.hid (by rw [HR.out]; exact List.drop_of_length_le (by have := HJM.out; omega))
          have HFIN : Hid (Dk.crashTo s keep s.last.length = Dk.crashTo s keep k) := Lib.hid (by
            have := Dk.crashTo_nil s keep k HNIL.out (s.last.length - k)
            rwa [show k + (s.last.length - k) = s.last.length by omega] at this)
          go_wp2_with ((with_reducible refine wpList_store_new rfl (.tmp 5) (.tmp 24) rfl rfl ?_ ?_ HPL.out ?_); (exact rfl); (exact rfl); intro W2 hP hB2 hz2; clear hlook q3 q4; have HC2 := Lib.hid (crash_step HD.out HC.out hB2); clear HC hB2 hz2 hP; have HC := HC2; have HQM := Lib.hid (HC.out.disk HD.out); obtain ⟨w2, hcl0, hmp, htn⟩ := MapAt.clear HQM.out.2.2 s.last.length 0; have hcl : ∀ ty, (Builtin.clear_ #[65] ty #[.map (some m)]).run Tryz.prog W2 = .ok (.tuple #[]) w2 := fun ty => hcl0; have HEND := Lib.hid (crash_end HD.out HC.out HFIN.out hmp htn); have c4' := HQM.out.2.1; have c0 := HEND.out.1.c0; have c1 := HEND.out.1.c1; have c2 := HEND.out.1.c2; have f0 := HEND.out.1.f0; have f1 := HEND.out.1.f1; have f2 := HEND.out.1.f2; clear hcl0 hmp htn)
          skip
          go_end0
          exact ⟨rfl, HEND.out.2.2, ((HEND.out.2.1.setCell (by simp) _).setCell (by simp) _).setCell (by simp) _⟩
        | succ M =>
          obtain ⟨c0, r0, hcr⟩ : ∃ c0 r0, (Dk.crashTo s keep k).2 = c0 :: r0 ∧ r0 = keep.drop (j + 1) ∧ keep.getD j 0 = c0 := by
            have hj : j < keep.length := by have := HJM.out; omega
            refine ⟨keep[j], keep.drop (j + 1), by rw [HR.out]; exact List.drop_eq_getElem_cons hj, rfl, ?_⟩
            rw [List.getD_eq_getElem?_getD, List.getElem?_eq_getElem hj]; rfl
          obtain ⟨hcr1, hcr2, hcr3⟩ := hcr
          have HCR1 := Lib.hid hcr1
          have HCR2 := Lib.hid hcr2
          obtain ⟨C, rfl⟩ : ∃ C, c1 = C + 1 := ⟨c1 - 1, by omega⟩
          have hA1' := HA1.out (by omega)
          subst hA1'
          obtain ⟨A2, hslw, hA2⟩ := run_slice_tail (some ⟨kb, ko + j, none⟩) kb (ko + j) M C rfl (by omega)
          have hslw2 : ∀ W : World, (Instr.sliceAt 39 (.slice (some ⟨kb, ko + j, none⟩) (M + 1) (C + 1)) (some (.int .i64 1)) none none).run Tryz.prog W = .ok (.slice A2 M C) W := fun W => (run_sliceAt_slice W 39 _ _ _ _ (by kernel_rfl)).trans (hslw W)
          have HA2 := Lib.hid hA2
          have hkj := HK.out j (by have := HJM.out; omega)
          rw [hcr3] at hkj
          have HKJ := Lib.hid hkj
          have hrow : (Dk.crashTo s keep k).1[k]? = some (Dk.lastAt s k) := by
            rw [Dk.crashTo_behind s keep k k (Nat.le_refl _)]
            unfold Dk.lastAt
            rw [List.getD_eq_getElem?_getD, List.getElem?_eq_getElem hlt]; rfl
          have HROW := Lib.hid hrow
          have HLL := Lib.hid (Dk.lastAt_len HD.out.ok hlt)
          have HT := Lib.hid (fun (W : World) => torn_any (Dk.lastAt s k) p c0 W HLL.out HPL.out)
          have HTL := Lib.hid (Dk.torn_len c0 HLL.out HPL.out)
          have hM0 : (0 : Int) < (M : Int) + 1 := by omega
          have hM1 : 0 < M + 1 := by omega
          have hM2 : ((M : Int) + 1 == 0) = false := by rw [beq_eq_false_iff_ne]; omega
          clear hcr1 hcr2 hcr3 hA2 hkj hrow
          go_wp2_with ((with_reducible refine wpList_store_new rfl (.tmp 5) (.tmp 24) rfl rfl ?_ ?_ HPL.out ?_); (exact rfl); (exact rfl); intro W2 hP hB2 hz2; clear hlook q3 q4)
          have HC2 := Lib.hid (crash_step HD.out HC.out hB2.drew)
          have HPP := Lib.hid (PageAt.drew hP)
          have e3 := (HC2.out.disk HD.out).1
          have ek : W2.drew.cell? ⟨kb, ko + j, none⟩ = some (.int .u8 (c0.toNat : Int)) := (HC2.out.only.cell (p := ⟨kb, ko + j, none⟩) HKJ.out.1 (fun q => HKJ.out.2.1 (by simp at q; simp [q]))).trans HKJ.out.2.2
          clear hB2 hz2 hP
          have HNL : Hid (wr.heap.size ≠ l) := Lib.hid (by have := Nat.lt_of_lt_of_le HD.out.llt HC.out.only.size; omega)
          have HKL : Hid (kb ≠ l) := Lib.hid (fun q => HKJ.out.2.1 (by simp [q]))
          refine wp_region_noPanic ?_
          refine wp_region_held_drew (S := fun W => W.cell? ⟨d, 3, none⟩ = some (.slice (some ⟨l, 0, none⟩) s.last.length s.last.length) ∧ PageAt W wr.heap.size p ∧ W.cell? ⟨kb, ko + j, none⟩ = some (.int .u8 (c0.toNat : Int))) (by kernel_rfl) ⟨e3, HPP.out, ek⟩ (fun hHeld => ?_)
          generalize W2.drew = W3 at HC2 HPP e3 ek hHeld ⊢
          refine take_at (i := 0) (d := some 31) (v := .pointer (some ⟨d, 0, none⟩)) rfl rfl (by kernel_rfl) (by kernel_rfl) (by kernel_rfl) (fun _ _ _ h => h) (Or.inl ⟨by kernel_rfl, ?_⟩) hHeld ?_
          · intro w hSw; obtain ⟨s1, s2, s3⟩ := hSw; go_simp
          (try simp only [Act.put, List.setIfInBounds_toArray, List.set_cons_zero, List.set_cons_succ])
          refine take_at (i := 1) (d := some 32) (v := .pointer (some ⟨d, 0, none⟩)) rfl rfl (by kernel_rfl) (by kernel_rfl) (by kernel_rfl) (fun _ _ _ h => h) (Or.inl ⟨by kernel_rfl, ?_⟩) hHeld ?_
          · intro w hSw; obtain ⟨s1, s2, s3⟩ := hSw; go_simp
          (try simp only [Act.put, List.setIfInBounds_toArray, List.set_cons_zero, List.set_cons_succ])
          refine take_at (i := 2) (d := some 33) (v := .pointer (some ⟨d, 3, none⟩)) rfl rfl (by kernel_rfl) (by kernel_rfl) (by kernel_rfl) (fun _ _ _ h => h) (Or.inl ⟨by kernel_rfl, ?_⟩) hHeld ?_
          · intro w hSw; obtain ⟨s1, s2, s3⟩ := hSw; go_simp
          (try simp only [Act.put, List.setIfInBounds_toArray, List.set_cons_zero, List.set_cons_succ])
          refine take_at (i := 3) (d := some 34) (v := .slice (some ⟨l, 0, none⟩) s.last.length s.last.length) rfl rfl (by kernel_rfl) (by kernel_rfl) (by kernel_rfl) (fun _ _ _ h => h) (Or.inl ⟨by kernel_rfl, ?_⟩) hHeld ?_
          · intro w hSw; obtain ⟨s1, s2, s3⟩ := hSw; go_simp
          (try simp only [Act.put, List.setIfInBounds_toArray, List.set_cons_zero, List.set_cons_succ])
          refine take_at (i := 4) (d := some 35) (v := .int .i64 (k : Int)) rfl rfl (by kernel_rfl) (by kernel_rfl) (by kernel_rfl) (fun _ _ _ h => h) (Or.inl ⟨by kernel_rfl, ?_⟩) hHeld ?_
          · intro w hSw; obtain ⟨s1, s2, s3⟩ := hSw; go_simp
          (try simp only [Act.put, List.setIfInBounds_toArray, List.set_cons_zero, List.set_cons_succ])
          refine take_at (i := 5) (d := some 36) (v := .pointer (some ⟨d, 0, none⟩)) rfl rfl (by kernel_rfl) (by kernel_rfl) (by kernel_rfl) (fun _ _ _ h => h) (Or.inl ⟨by kernel_rfl, ?_⟩) hHeld ?_
          · intro w hSw; obtain ⟨s1, s2, s3⟩ := hSw; go_simp
          (try simp only [Act.put, List.setIfInBounds_toArray, List.set_cons_zero, List.set_cons_succ])
          refine take_at (i := 6) (d := some 37) (v := .pointer (some ⟨d, 0, none⟩)) rfl rfl (by kernel_rfl) (by kernel_rfl) (by kernel_rfl) (fun _ _ _ h => h) (Or.inl ⟨by kernel_rfl, ?_⟩) hHeld ?_
          · intro w hSw; obtain ⟨s1, s2, s3⟩ := hSw; go_simp
          (try simp only [Act.put, List.setIfInBounds_toArray, List.set_cons_zero, List.set_cons_succ])
          refine take_at (i := 7) (d := some 38) (v := .pointer (some ⟨d, 3, none⟩)) rfl rfl (by kernel_rfl) (by kernel_rfl) (by kernel_rfl) (fun _ _ _ h => h) (Or.inl ⟨by kernel_rfl, ?_⟩) hHeld ?_
          · intro w hSw; obtain ⟨s1, s2, s3⟩ := hSw; go_simp
          (try simp only [Act.put, List.setIfInBounds_toArray, List.set_cons_zero, List.set_cons_succ])
          refine take_at (i := 8) (d := some 39) (v := .slice (some ⟨l, 0, none⟩) s.last.length s.last.length) rfl rfl (by kernel_rfl) (by kernel_rfl) (by kernel_rfl) (fun _ _ _ h => h) (Or.inl ⟨by kernel_rfl, ?_⟩) hHeld ?_
          · intro w hSw; obtain ⟨s1, s2, s3⟩ := hSw; go_simp
          (try simp only [Act.put, List.setIfInBounds_toArray, List.set_cons_zero, List.set_cons_succ])
          refine take_at (i := 9) (d := some 40) (v := .int .i64 (k : Int)) rfl rfl (by kernel_rfl) (by kernel_rfl) (by kernel_rfl) (fun _ _ _ h => h) (Or.inl ⟨by kernel_rfl, ?_⟩) hHeld ?_
          · intro w hSw; obtain ⟨s1, s2, s3⟩ := hSw; go_simp
          (try simp only [Act.put, List.setIfInBounds_toArray, List.set_cons_zero, List.set_cons_succ])
          refine take_at (i := 10) (d := some 41) (v := .pointer (some ⟨l, k * 64, none⟩)) rfl rfl (by kernel_rfl) (by kernel_rfl) (by kernel_rfl) (fun _ _ _ h => h) (Or.inl ⟨by kernel_rfl, ?_⟩) hHeld ?_
          · intro w hSw; obtain ⟨s1, s2, s3⟩ := hSw; go_simp
          (try simp only [Act.put, List.setIfInBounds_toArray, List.set_cons_zero, List.set_cons_succ])
          refine take_at (i := 12) (d := some 43) (v := pageV p) rfl rfl (by kernel_rfl) (by kernel_rfl) (by kernel_rfl) (fun _ _ _ h => h) (yields_page (by kernel_rfl) (.tmp 5) rfl rfl HPL.out (fun _ hSw => hSw.2.1.range)) hHeld ?_
          (try simp only [Act.put, List.setIfInBounds_toArray, List.set_cons_zero, List.set_cons_succ])
          refine take_at (i := 13) (d := some 44) (v := .slice (some ⟨kb, ko + j, none⟩) (M + 1) (C + 1)) rfl rfl (by kernel_rfl) (by kernel_rfl) (by kernel_rfl) (fun _ _ _ h => h) (Or.inl ⟨by kernel_rfl, ?_⟩) hHeld ?_
          · intro w hSw; obtain ⟨s1, s2, s3⟩ := hSw; go_simp
          (try simp only [Act.put, List.setIfInBounds_toArray, List.set_cons_zero, List.set_cons_succ])
          refine take_at (i := 14) (d := some 45) (v := .pointer (some ⟨kb, ko + j, none⟩)) rfl rfl (by kernel_rfl) (by kernel_rfl) (by kernel_rfl) (fun _ _ _ h => h) (Or.inl ⟨by kernel_rfl, ?_⟩) hHeld ?_
          · intro w hSw; obtain ⟨s1, s2, s3⟩ := hSw; go_simp
          (try simp only [Act.put, List.setIfInBounds_toArray, List.set_cons_zero, List.set_cons_succ])
          refine take_at (i := 15) (d := some 46) (v := .int .u8 (c0.toNat : Int)) rfl rfl (by kernel_rfl) (by kernel_rfl) (by kernel_rfl) (fun _ _ _ h => h) (Or.inl ⟨by kernel_rfl, ?_⟩) hHeld ?_
          · intro w hSw; obtain ⟨s1, s2, s3⟩ := hSw; go_simp
          (try simp only [Act.put, List.setIfInBounds_toArray, List.set_cons_zero, List.set_cons_succ])
          refine anyH_load_row (i := 11) HC2.out.rows k HROW.out (by kernel_rfl) rfl (by kernel_rfl) (.tmp 41) rfl rfl (some 42) rfl hHeld ?_
          (try simp only [Act.put, List.setIfInBounds_toArray, List.set_cons_zero, List.set_cons_succ])
          refine wpAnyH_ready (rs := [16]) (by kernel_rfl) (by simp) ?_
          refine AllReadyH.cons rfl (fun K hK => ?_) AllReadyH.nil
          go_simp
          (go_at_call 42; refine (HT.out _).mono ?_; rintro e W4 ⟨rfl, hB4⟩; have HC4 := Lib.hid (crash_step HD.out HC2.out hB4); have HC5 := Lib.hid (crash_put HD.out HC4.out hlt HCA.out HCR1.out))
          (try go_wp2_with fail)
          refine hK.out _ _ (keepC hB4 hHeld) (fun hHeld => ?_)
          clear hK K
          (try simp only [Act.put, List.setIfInBounds_toArray, List.set_cons_zero, List.set_cons_succ])
          refine take_at (i := 17) (d := some 48) (v := .pointer (some ⟨l, k * 64, none⟩)) rfl rfl (by kernel_rfl) (by kernel_rfl) (by kernel_rfl) (fun _ _ _ h => h) (Or.inl ⟨by kernel_rfl, ?_⟩) hHeld ?_
          · intro w hSw; obtain ⟨s1, s2, s3⟩ := hSw; go_simp
          (try simp only [Act.put, List.setIfInBounds_toArray, List.set_cons_zero, List.set_cons_succ])
          refine anyH_store_row (i := 18) HC4.out.rows k (by rw [Dk.crashTo_len]; exact hlt) HTL.out (by kernel_rfl) rfl (by kernel_rfl) (.tmp 48) (.tmp 47) rfl rfl rfl none rfl (keepP hHeld HD.out.dl HNL.out HKL.out) ?_
          (try simp only [Act.put])
          refine wpAnyH_done (by kernel_rfl) ?_ _
          refine NoPanic.normal ?_
          go_wp2
          go_roundw
          case rel =>
            refine ⟨k + 1, by omega, by go_num, ?_, HC5.out.1⟩
            rw [HC5.out.2]
            exact ⟨j + 1, M, A2, C, by have := HJM.out; omega, HCR2.out, rfl, by omega, fun h0 => by rw [HA2.out h0]; rfl⟩
          case measure => simp [intOf]; omega
    · obtain rfl : k = s.last.length := by omega
      have HFIN : Hid (Dk.crashTo s keep s.last.length = Dk.crashTo s keep s.last.length) := Lib.hid rfl
      clear q3 q4 q5
      have HQM := Lib.hid (HC.out.disk HD.out)
      obtain ⟨w2, hcl0, hmp, htn⟩ := MapAt.clear HQM.out.2.2 s.last.length 0
      have hcl : ∀ ty, (Builtin.clear_ #[65] ty #[.map (some m)]).run Tryz.prog wr = .ok (.tuple #[]) w2 := fun ty => hcl0
      have HEND := Lib.hid (crash_end HD.out HC.out HFIN.out hmp htn)
      have c4' := HQM.out.2.1
      have c0 := HEND.out.1.c0
      have c1 := HEND.out.1.c1
      have c2 := HEND.out.1.c2
      have f0 := HEND.out.1.f0
      have f1 := HEND.out.1.f1
      have f2 := HEND.out.1.f2
      clear hcl0 hmp htn
      go_wp2
      go_end0
      exact ⟨rfl, HEND.out.2.2, ((HEND.out.2.1.setCell (by simp) _).setCell (by simp) _).setCell (by simp) _⟩
set_option maxRecDepth 100000 in
theorem crash_any {w : World} {d l m : Nat} {s : Dk.St} (h : DiskAt w d l m s) (A : Option Addr) (cp : Nat) (keep : List UInt8) (hk : KeepAt w A cp keep [d, l, m]) :
    Calls Tryz.prog 21 #[.pointer (some ⟨d, 0, none⟩), .slice A keep.length cp] w fun e w' =>
    e = .returned (.tuple #[]) ∧ DiskAt w' d l m (Dk.crash s keep) ∧ Only [d, l, m] w w' := by
  by_cases h0 : 0 < keep.length
  · obtain ⟨kb, ko, e, h1, h2, h3⟩ := hk.cells h0
    exact crash_row h A cp keep kb ko hk.small hk.room (fun _ => e) (fun j hj => ⟨h1, h2, h3 j hj⟩)
  · exact crash_row h A cp keep 0 0 hk.small hk.room (fun q => absurd q h0) (fun j hj => by omega)
end Go.Proofs.YtppbiohjhnoagaaGreat

/-
  Arguments that are pages, opened; pages held against each other, for the walk.
-/
namespace Go.Proofs.YtppbiohjhnoagaaGreat
open Go.ChangeShapes Go.WideShapes Go.ChangeAt Go.RowKit
open Dk (zeros zeros_length)

set_option maxRecDepth 100000 in
theorem run_eqGuard_page (w : World) (x y : Operand) (p q : List UInt8) : (eqGuard .eql 38 x y (pageV p) (pageV q)).run Tryz.prog w = .ok () w :=
  run_eqGuard_agg w .eql 38 x y _ _ (by kernel_rfl)
set_option maxRecDepth 100000 in
theorem run_neGuard_page (w : World) (x y : Operand) (p q : List UInt8) : (eqGuard .neq 38 x y (pageV p) (pageV q)).run Tryz.prog w = .ok () w :=
  run_eqGuard_agg w .neq 38 x y _ _ (by kernel_rfl)
set_option maxRecDepth 100000 in
theorem run_eql_same (w : World) (p : List UInt8) (hp : p.length = 64) : (binOp .eql 38 (pageV p) (pageV p)).run Tryz.prog w = .ok (.bool true) w := by
  rw [run_eql_page w p p hp hp]; simp
set_option maxRecDepth 100000 in
theorem run_neq_same (w : World) (p : List UInt8) (hp : p.length = 64) : (binOp .neq 38 (pageV p) (pageV p)).run Tryz.prog w = .ok (.bool false) w := by
  rw [run_neq_page w p p hp hp]; simp

set_option maxRecDepth 100000 in
theorem run_eqPages_same (w : World) (p : List UInt8) (hp : p.length = 64) : (Op.equalIn 10000 38 (.agg (byteVals p).toArray) (.agg (byteVals p).toArray)).run Tryz.prog w = .ok true w := by
  have := run_eqPages w p p hp hp
  unfold pageV at this
  rw [this]; simp
set_option maxRecDepth 100000 in
theorem bytes_of : ∀ (cs : List Value), (∀ j, j < cs.length → ∃ v : Int, cs[j]? = some (.int .u8 v) ∧ 0 ≤ v ∧ v ≤ 255) → ∃ l : List UInt8, cs = byteVals l
  | [], _ => ⟨[], rfl⟩
  | u :: cs, h => by
    obtain ⟨l, rfl⟩ := bytes_of cs (fun j hj => by simpa using h (j + 1) (by simpa using hj))
    obtain ⟨v, hv, h0, h1⟩ := h 0 (by simp)
    have hu : u = .int .u8 v := by simpa using hv
    refine ⟨UInt8.ofNat v.toNat :: l, ?_⟩
    unfold byteVals
    rw [List.map_cons, hu, UInt8.toNat_ofNat']
    congr 2
    omega
set_option maxRecDepth 100000 in
/-- the cells of a page are bytes -/
theorem page_cells {H : Type} {enc : TypeId × Value → H} {W : World} {fuel : Nat} {base : Nat} {spare : Nat → Bool} {held : Bool} {cs : List Value} {x : DataW H × List MemPlace} (ht : DataW.trod enc Tryz.prog W base spare held fuel 38 cs = some x) :
    ∃ p : List UInt8, p.length = 64 ∧ cs = byteVals p := by
  obtain ⟨xs, mm, _, _, hcl, hxl, hx⟩ := DataW.trod_array Tryz.underlying38 ht
  rw [cellsP] at hcl
  obtain ⟨l, hl⟩ := bytes_of cs (fun j hj => by
    have hx' := hx j (by omega)
    rw [cells8, Nat.mul_one] at hx'
    have hs : xs[j]? = some (xs[j]'(by omega)) := List.getElem?_eq_getElem (by omega)
    obtain ⟨v, hv, _, hw⟩ := DataW.trod_int Tryz.underlying5 (hx'.trans hs)
    have hb := bounds_u8 hw
    refine ⟨v, ?_, hb.1, hb.2⟩
    have e : (cs.drop j).take 1 = [cs[j]] := by rw [List.drop_eq_getElem_cons hj]; rfl
    rw [e] at hv
    rw [List.getElem?_eq_getElem hj]
    injection hv with hv
    rw [hv])
  exact ⟨l, by rw [← byteVals_length, ← hl, hcl], hl⟩
set_option maxRecDepth 100000 in
theorem okWide_array {P : Program} {w : World} {r : Reach} {base : Nat} {t : TypeId} {v : Value} {n : Nat} {e : TypeId} (ht : P.underlying t = some (.array n e)) (h : Value.okWide P w r base t v) : ∃ cs, v = .agg cs ∧ cs.size = P.cellsOf t := by
  simp only [Value.okWide, ht] at h
  obtain ⟨cs, h1, h2, _⟩ := h
  exact ⟨cs, h1, h2⟩
set_option maxRecDepth 100000 in
theorem open_page {H : Type} {enc : TypeId × Value → H} {W : World} {base : Nat} {v : Value} {d : DataW H} {p : List MemPlace} (hv : Value.okWide Tryz.prog W .any base 38 v)
    (h : DataW.Trod enc Tryz.prog W 0 (fun _ => true) true 38 v d p) : ∃ q : List UInt8, q.length = 64 ∧ v = pageV q := by
  obtain ⟨cs, rfl, hsz⟩ := okWide_array Tryz.underlying38 hv
  obtain ⟨fuel, hf⟩ := h
  obtain ⟨q, hq, he⟩ := page_cells hf
  refine ⟨q, hq, ?_⟩
  unfold pageV
  rw [← he]
  simp [Value.cells]
set_option maxRecDepth 100000 in
/-- a page held against the page of zeros that is written out -/
theorem run_eql_zero (w : World) (p : List UInt8) (hp : p.length = 64) : (binOp .eql 38 (pageV p) (.agg zeroCells)).run Tryz.prog w = .ok (.bool (decide (p = zeros))) w := run_eql_page w p zeros hp zeros_length
set_option maxRecDepth 100000 in
theorem run_neq_zero (w : World) (p : List UInt8) (hp : p.length = 64) : (binOp .neq 38 (pageV p) (.agg zeroCells)).run Tryz.prog w = .ok (.bool (!decide (p = zeros))) w := run_neq_page w p zeros hp zeros_length
set_option maxRecDepth 100000 in
theorem run_eqGuard_zero (w : World) (x y : Operand) (p : List UInt8) : (eqGuard .eql 38 x y (pageV p) (.agg zeroCells)).run Tryz.prog w = .ok () w := run_eqGuard_page w x y p zeros
set_option maxRecDepth 100000 in
theorem run_neGuard_zero (w : World) (x y : Operand) (p : List UInt8) : (eqGuard .neq 38 x y (pageV p) (.agg zeroCells)).run Tryz.prog w = .ok () w := run_neGuard_page w x y p zeros
set_option maxRecDepth 100000 in
theorem laidOut : laidOutB Tryz.prog = true := by kernel_rfl
set_option maxRecDepth 100000 in
theorem own : ownKnob Tryz.prog.godebug = none := by kernel_rfl
end Go.Proofs.YtppbiohjhnoagaaGreat
