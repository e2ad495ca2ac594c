/-
  The contract of disk's torn: a page of which only a beginning was renewed.
-/
import Derived.Test.YtlamllnflbdcjaaDread
import Derived.Laws.IdiomCopy
import Derived.IntWalk
import Derived.Lib.SlBuf
namespace Go.Proofs.Ytlamllnflbdcjaa
open Go.RowKit
open Dk (zeros zeros_length)

theorem info8s : (Try.prog.info? 5).map (·.size) = some 1 := by kernel_rfl
/-- a beginning of a page is laid over -/
theorem PageAt.start {w : World} {b : Nat} {p : List UInt8} (h : PageAt w b p) (q : List UInt8) (hq : q.length ≤ 64) : PageAt (w.setCells b 0 (byteVals q)) b (q ++ p.drop q.length) where
  len := by rw [List.length_append, List.length_drop, h.len]; omega
  range := fun j v hv => by
    rw [Nat.zero_add]
    unfold byteVals at hv
    rw [List.getElem?_map, List.getElem?_append] at hv
    by_cases hj : j < q.length
    · rw [if_pos hj] at hv
      have := World.rangeAt_setCells_same w b 0 (byteVals q) (by rw [byteVals_length]; exact fun i hi => h.free i (by omega))
      have := this j v (by unfold byteVals; rw [List.getElem?_map]; exact hv)
      rwa [Nat.zero_add] at this
    · rw [if_neg hj, List.getElem?_drop, show q.length + (j - q.length) = j by omega] at hv
      rw [World.cell?_setCells_out b (byteVals q) 0 w ⟨b, j, none⟩ (fun _ _ => by rw [byteVals_length]; show j < 0 ∨ 0 + q.length ≤ j; omega)]
      have := h.range j v (by unfold byteVals; rw [List.getElem?_map]; exact hv)
      rwa [Nat.zero_add] at this
  free := World.there_setCells h.free _ _ _
theorem run_slice_page_to (w : World) (b k : Nat) (h : k ≤ 64) :
    (Instr.sliceAt 31 (.pointer (some ⟨b, 0, none⟩)) none (some (.int .i64 (k : Int))) none).run Try.prog w = .ok (.slice (some ⟨b, 0, none⟩) k 64) w := by
  rw [run_sliceAt_array_h w _ _ underP .i64 (k : Int) (by omega) (by rw [arrP]; omega), elemP, run_size8, arrP, Result.andThen_ok]
  unfold slicedAt
  rw [if_neg (by omega), Nat.zero_mul, Addr.add_mid]
  simp
theorem torn_start (w : World) (p q : List UInt8) (hp : p.length = 64) (hq : q.length = 64) :
    PageAt (((w.alloc (.cells (byteVals p).toArray 31)).alloc (.cells (byteVals q).toArray 31)).alloc (.cells zeroCells 31)) w.heap.size p ∧
    PageAt (((w.alloc (.cells (byteVals p).toArray 31)).alloc (.cells (byteVals q).toArray 31)).alloc (.cells zeroCells 31)) (w.heap.size + 1) q ∧
    PageAt (((w.alloc (.cells (byteVals p).toArray 31)).alloc (.cells (byteVals q).toArray 31)).alloc (.cells zeroCells 31)) (w.heap.size + 1 + 1) zeros ∧
    Below w.heap.size w (((w.alloc (.cells (byteVals p).toArray 31)).alloc (.cells (byteVals q).toArray 31)).alloc (.cells zeroCells 31)) := by
  refine ⟨((pageAt_new w p _ hp).alloc _).alloc _, ?_, ?_, (((Below.refl _ _).alloc (Nat.le_refl _) _).alloc (by simp) _).alloc (by simp; omega) _⟩
  · have := (pageAt_new (w.alloc (.cells (byteVals p).toArray 31)) q 31 hq).alloc (.cells zeroCells 31)
    simpa using this
  · have := pageAt_zeros ((w.alloc (.cells (byteVals p).toArray 31)).alloc (.cells (byteVals q).toArray 31)) 31
    simpa using this
set_option maxRecDepth 100000 in
set_option maxHeartbeats 1000000 in
theorem torn_any (p q : List UInt8) (c : UInt8) (w : World) (hp : p.length = 64) (hq : q.length = 64) :
    Calls Try.prog 21 #[pageV p, pageV q, .int .u8 (c.toNat : Int)] w fun e w' => e = .returned (pageV (Dk.torn p q c)) ∧ Below w.heap.size w w' := by
  have HS := Lib.hid (torn_start w p q hp hq)
  have hc := c.toNat_lt
  have hk65 : c.toNat % 65 < 65 := Nat.mod_lt _ (by omega)
  obtain ⟨k, hk⟩ : ∃ k : Nat, (IntKind.i64.wrap (c.toNat : Int)).tmod 65 = (k : Int) ∧ k ≤ 64 ∧ c.toNat % 65 = k := ⟨c.toNat % 65, by rw [IntWalk.i64_in _ (by omega), Int.tmod_eq_emod_of_nonneg (by omega)]; omega, by omega, rfl⟩
  obtain ⟨hk1, hk2, hk3⟩ := hk
  have hql : (q.take k).length = k := by rw [List.length_take]; omega
  have HT : Hid (Dk.torn p q c = q.take k ++ p.drop (q.take k).length) := Lib.hid (by unfold Dk.torn; rw [hk3, hql])
  have HQ := Lib.hid hql
  have HC := Lib.hid (fun (W : World) (ty : TypeId) (hW1 : PageAt W w.heap.size p) (hW2 : PageAt W (w.heap.size + 1) q) => run_copy_cells (P := Try.prog) W 29 29 ty 5 w.heap.size 0 k 64 ⟨w.heap.size + 1, 0, none⟩ 64 64 (byteVals (q.take k)) Try.underlying29 info8s
    (by rw [byteVals_length, hql]; exact (Nat.min_eq_right hk2).symm)
    (fun j v hv => by
      rw [Addr.add_mid]
      unfold byteVals at hv
      rw [List.getElem?_map, List.getElem?_take] at hv
      by_cases hj : j < k
      · rw [if_pos hj] at hv
        exact hW2.range j v (by unfold byteVals; rw [List.getElem?_map]; exact hv)
      · rw [if_neg hj] at hv; cases hv)
    (fun j hj => (hW1.free j (by rw [byteVals_length, hql] at hj; omega)).1) (fun j hj => (hW1.free j (by rw [byteVals_length, hql] at hj; omega)).2) (byteVals_one _))
  have hsl := fun (W : World) => run_slice_page_to W w.heap.size k hk2
  have hsl2 := fun (W : World) => run_slice_page_all W (w.heap.size + 1)
  clear hp hq hk3 hql hk65
  generalize Dk.torn p q c = r at HT ⊢
  unfold pageV
  go_enter Try.func21, Try.ntmps21
  go_wp2_with fail
  rw [← zeroCells_def]
  generalize ((w.alloc (.cells (byteVals p).toArray 31)).alloc (.cells (byteVals q).toArray 31)).alloc (.cells zeroCells 31) = w1 at HS ⊢
  refine wp_region_still_tail 5 (by kernel_rfl) (by kernel_rfl) ?_
  simp only [List.take_succ_cons, List.take_zero, List.drop_succ_cons, List.drop_zero]
  change wpStill _ _ w1.drew (fun a' => wpList _ _ _ _ a' w1.drew) _ _
  still_step
  still_step
  still_step
  still_step
  still_step
  refine wpStill_nil ?_
  refine Lib.wpList_copy_run _ rfl (.tmp 10) (.tmp 11) 29 29 rfl _ _ rfl rfl (HC.out w1.drew _ (HS.out.1.block rfl) (HS.out.2.1.block rfl)) ?_
  have HP2 := Lib.hid ((HS.out.1.block (w' := w1.drew) rfl).start (q.take k) (by rw [HQ.out]; exact hk2))
  have HP3 := Lib.hid ((HS.out.2.2.1.block (w' := w1.drew) rfl).put_other w.heap.size 0 (byteVals (q.take k)) (by omega))
  have HB := Lib.hid (below_setCells w.heap.size (Nat.le_refl _) (byteVals (q.take k)) 0 _ HS.out.2.2.2.drew)
  have HL := Lib.hid HP2.out.len
  generalize (w1.drew.setCells w.heap.size 0 (byteVals (q.take k))) = w2 at HP2 HP3 HB ⊢
  rw [← HT.out] at HP2 HL
  clear hsl hsl2 hk1
  go_wp2_with (first
    | (with_reducible refine wpList_load_page HP2.out rfl (.tmp 3) rfl rfl ?_)
    | (with_reducible refine wpList_store_page HP3.out HL.out rfl (.tmp 6) (.tmp 13) rfl rfl rfl ?_))
  exact bodyPost_ret (results_page _ 6 rfl _ (HP3.out.put _ HL.out) rfl) rfl ⟨rfl, below_setCells _ (by omega) _ _ _ HB.out⟩
end Go.Proofs.Ytlamllnflbdcjaa
