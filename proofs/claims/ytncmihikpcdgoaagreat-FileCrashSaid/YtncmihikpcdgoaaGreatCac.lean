/- Texts of the proof. -/
import Derived.Test.YtncmihikpcdgoaaGreatCab
import Derived.Laws.IdiomCopy
import Derived.IntWalk
import Derived.Lib.SlBuf
import Derived.Deep.RegionHeld3
import Derived.ProofKit
import Derived.OpenShut
import Derived.ShutString
import Derived.ChangeOld
import Derived.Lib.SmallJoins
import Derived.Deep.Slices
import Derived.Test.YtncmihikpcdgoaaGreatCaa
import Derived.WalkKit
import Derived.WalkSpells
import Derived.WalkLawsBesides
import Derived.Laws.BitsAllLaws
import Derived.Lib.Hide
set_option maxRecDepth 100000
set_option maxHeartbeats 16000000
namespace Go.Proofs.YtncmihikpcdgoaaGreat
section
open Go.RowKit
open Dk (zeros zeros_length)
theorem info8s : (Tryz.prog.info? 5).map (·.size) = some 1 := by kernel_rfl
theorem PageAt.start {w : World} {b : Nat} {p : List UInt8} (h : PageAt w b p) (q : List UInt8) (hq : q.length ≤ 64) : PageAt (w.setCells b 0 (byteVals q)) b (q ++ p.drop q.length) where
  len := by rw [List.length_append, List.length_drop, h.len]; omega
  range := fun j v hv => by
    rw [Nat.zero_add]
    unfold byteVals at hv
    rw [List.getElem?_map, List.getElem?_append] at hv
    by_cases hj : j < q.length
    · rw [if_pos hj] at hv
      have := World.rangeAt_setCells_same w b 0 (byteVals q) (by rw [byteVals_length]; exact fun i hi => h.free i (by omega))
      have := this j v (by unfold byteVals; rw [List.getElem?_map]; exact hv)
      rwa [Nat.zero_add] at this
    · rw [if_neg hj, List.getElem?_drop, show q.length + (j - q.length) = j by omega] at hv
      rw [World.cell?_setCells_out b (byteVals q) 0 w ⟨b, j, none⟩ (fun _ _ => by rw [byteVals_length]; show j < 0 ∨ 0 + q.length ≤ j; omega)]
      have := h.range j v (by unfold byteVals; rw [List.getElem?_map]; exact hv)
      rwa [Nat.zero_add] at this
  free := World.there_setCells h.free _ _ _
theorem run_slice_page_to (w : World) (b k : Nat) (h : k ≤ 64) :
    (Instr.sliceAt 68 (.pointer (some ⟨b, 0, none⟩)) none (some (.int .i64 (k : Int))) none).run Tryz.prog w = .ok (.slice (some ⟨b, 0, none⟩) k 64) w := by
  rw [run_sliceAt_array_h w _ _ underP .i64 (k : Int) (by omega) (by rw [arrP]; omega), elemP, run_size8, arrP, Result.andThen_ok]
  unfold slicedAt
  rw [if_neg (by omega), Nat.zero_mul, Addr.add_mid]
  simp
theorem torn_start (w : World) (p q : List UInt8) (hp : p.length = 64) (hq : q.length = 64) :
    PageAt (((w.alloc (.cells (byteVals p).toArray 68)).alloc (.cells (byteVals q).toArray 68)).alloc (.cells zeroCells 68)) w.heap.size p ∧
    PageAt (((w.alloc (.cells (byteVals p).toArray 68)).alloc (.cells (byteVals q).toArray 68)).alloc (.cells zeroCells 68)) (w.heap.size + 1) q ∧
    PageAt (((w.alloc (.cells (byteVals p).toArray 68)).alloc (.cells (byteVals q).toArray 68)).alloc (.cells zeroCells 68)) (w.heap.size + 1 + 1) zeros ∧
    Below w.heap.size w (((w.alloc (.cells (byteVals p).toArray 68)).alloc (.cells (byteVals q).toArray 68)).alloc (.cells zeroCells 68)) := by
  refine ⟨((pageAt_new w p _ hp).alloc _).alloc _, ?_, ?_, (((Below.refl _ _).alloc (Nat.le_refl _) _).alloc (by simp) _).alloc (by simp; omega) _⟩
  · have := (pageAt_new (w.alloc (.cells (byteVals p).toArray 68)) q 68 hq).alloc (.cells zeroCells 68)
    simpa using this
  · have := pageAt_zeros ((w.alloc (.cells (byteVals p).toArray 68)).alloc (.cells (byteVals q).toArray 68)) 68
    simpa using this
theorem torn_any (p q : List UInt8) (c : UInt8) (w : World) (hp : p.length = 64) (hq : q.length = 64) :
    Calls Tryz.prog 59 #[pageV p, pageV q, .int .u8 (c.toNat : Int)] w fun e w' => e = .returned (pageV (Dk.torn p q c)) ∧ Below w.heap.size w w' := by
  have HS := Lib.hid (torn_start w p q hp hq)
  have hc := c.toNat_lt
  have hk65 : c.toNat % 65 < 65 := Nat.mod_lt _ (by omega)
  obtain ⟨k, hk⟩ : ∃ k : Nat, (IntKind.i64.wrap (c.toNat : Int)).tmod 65 = (k : Int) ∧ k ≤ 64 ∧ c.toNat % 65 = k := ⟨c.toNat % 65, by rw [IntWalk.i64_in _ (by omega), Int.tmod_eq_emod_of_nonneg (by omega)]; omega, by omega, rfl⟩
  obtain ⟨hk1, hk2, hk3⟩ := hk
  have hql : (q.take k).length = k := by rw [List.length_take]; omega
  have HT : Hid (Dk.torn p q c = q.take k ++ p.drop (q.take k).length) := Lib.hid (by unfold Dk.torn; rw [hk3, hql])
  have HQ := Lib.hid hql
  have HC := Lib.hid (fun (W : World) (ty : TypeId) (hW1 : PageAt W w.heap.size p) (hW2 : PageAt W (w.heap.size + 1) q) => run_copy_cells (P := Tryz.prog) W 48 48 ty 5 w.heap.size 0 k 64 ⟨w.heap.size + 1, 0, none⟩ 64 64 (byteVals (q.take k)) Tryz.underlying48 info8s
    (by rw [byteVals_length, hql]; exact (Nat.min_eq_right hk2).symm)
    (fun j v hv => by
      rw [Addr.add_mid]
      unfold byteVals at hv
      rw [List.getElem?_map, List.getElem?_take] at hv
      by_cases hj : j < k
      · rw [if_pos hj] at hv
        exact hW2.range j v (by unfold byteVals; rw [List.getElem?_map]; exact hv)
      · rw [if_neg hj] at hv; cases hv)
    (fun j hj => (hW1.free j (by rw [byteVals_length, hql] at hj; omega)).1) (fun j hj => (hW1.free j (by rw [byteVals_length, hql] at hj; omega)).2) (byteVals_one _))
  have hsl := fun (W : World) => run_slice_page_to W w.heap.size k hk2
  have hsl2 := fun (W : World) => run_slice_page_all W (w.heap.size + 1)
  clear hp hq hk3 hql hk65
  generalize Dk.torn p q c = r at HT ⊢
  unfold pageV
  go_enter Tryz.func59, Tryz.ntmps59
  go_wp2_with fail
  rw [← zeroCells_def]
  generalize ((w.alloc (.cells (byteVals p).toArray 68)).alloc (.cells (byteVals q).toArray 68)).alloc (.cells zeroCells 68) = w1 at HS ⊢
  refine wp_region_still_tail 5 (by kernel_rfl) (by kernel_rfl) ?_
  simp only [List.take_succ_cons, List.take_zero, List.drop_succ_cons, List.drop_zero]
  change wpStill _ _ w1.drew (fun a' => wpList _ _ _ _ a' w1.drew) _ _
  still_step
  still_step
  still_step
  still_step
  still_step
  refine wpStill_nil ?_
  refine Lib.wpList_copy_run _ rfl (.tmp 10) (.tmp 11) 48 48 rfl _ _ rfl rfl (HC.out w1.drew _ (HS.out.1.block rfl) (HS.out.2.1.block rfl)) ?_
  have HP2 := Lib.hid ((HS.out.1.block (w' := w1.drew) rfl).start (q.take k) (by rw [HQ.out]; exact hk2))
  have HP3 := Lib.hid ((HS.out.2.2.1.block (w' := w1.drew) rfl).put_other w.heap.size 0 (byteVals (q.take k)) (by omega))
  have HB := Lib.hid (below_setCells w.heap.size (Nat.le_refl _) (byteVals (q.take k)) 0 _ HS.out.2.2.2.drew)
  have HL := Lib.hid HP2.out.len
  generalize (w1.drew.setCells w.heap.size 0 (byteVals (q.take k))) = w2 at HP2 HP3 HB ⊢
  rw [← HT.out] at HP2 HL
  clear hsl hsl2 hk1
  go_wp2_with (first
    | (with_reducible refine wpList_load_page HP2.out rfl (.tmp 3) rfl rfl ?_)
    | (with_reducible refine wpList_store_page HP3.out HL.out rfl (.tmp 6) (.tmp 13) rfl rfl rfl ?_))
  exact bodyPost_ret (results_page _ 6 rfl _ (HP3.out.put _ HL.out) rfl) rfl ⟨rfl, below_setCells _ (by omega) _ _ _ HB.out⟩
end

section
open Go.RowKit Go.Maps
open Dk (zeros zeros_length)
def mixL (s : Dk.St) (left : Nat → Bool) : List (List UInt8) := (List.range s.last.length).map fun i => if left i then Dk.lastAt s i else Dk.nowAt s i
theorem mixL_length (s : Dk.St) (left : Nat → Bool) : (mixL s left).length = s.last.length := by unfold mixL; simp
theorem mixL_at (s : Dk.St) (left : Nat → Bool) (i : Nat) (hi : i < s.last.length) : (mixL s left)[i]? = some (if left i then Dk.lastAt s i else Dk.nowAt s i) := by
  unfold mixL
  rw [List.getElem?_map, List.getElem?_range hi]; rfl
theorem mixL_start (s : Dk.St) (left : Nat → Bool) (h : ∀ i, i < s.last.length → left i = false → Dk.cacheAt s i = none) : mixL s left = s.last := by
  apply List.ext_getElem?
  intro i
  by_cases hi : i < s.last.length
  · rw [mixL_at s left i hi]
    have hl : s.last[i]? = some (Dk.lastAt s i) := by unfold Dk.lastAt; rw [List.getD_eq_getElem?_getD, List.getElem?_eq_getElem hi]; rfl
    rw [hl]
    cases e : left i with
    | true => rfl
    | false =>
      have := h i hi e
      simp [Dk.nowAt, this]
  · rw [List.getElem?_eq_none (by rw [mixL_length]; omega), List.getElem?_eq_none (by omega)]
theorem mixL_end (s : Dk.St) (left : Nat → Bool) (h : ∀ i, left i = false) : mixL s left = (Dk.flushed s).last := by
  unfold mixL Dk.flushed
  apply List.map_congr_left
  intro i _
  rw [h i]; rfl
theorem mixL_step (s : Dk.St) (left left' : Nat → Bool) (i : Nat) (p : List UInt8) (hi : i < s.last.length) (hp : Dk.cacheAt s i = some p) (h1 : left' i = false) (h2 : ∀ j, j ≠ i → left' j = left j) : (mixL s left).set i p = mixL s left' := by
  apply List.ext_getElem?
  intro j
  rw [List.getElem?_set]
  by_cases e : i = j
  · subst e
    rw [if_pos rfl, if_pos (by rw [mixL_length]; exact hi), mixL_at s left' i hi, h1]
    simp [Dk.nowAt, hp]
  · rw [if_neg e]
    by_cases hj : j < s.last.length
    · rw [mixL_at s left j hj, mixL_at s left' j hj, h2 j (fun q => e q.symm)]
    · rw [List.getElem?_eq_none (by rw [mixL_length]; omega), List.getElem?_eq_none (by rw [mixL_length]; omega)]
theorem Only.newer {l : List Nat} {b : Nat} {a w w' : World} (h : Only l a w) (k : Only [b] w w') (hb : a.heap.size ≤ b) : Only l a w' :=
  ⟨k.os.trans h.os, k.tape.trans h.tape, k.output.trans h.output, Nat.le_trans h.size k.size, fun i hi hn => (k.block i (Nat.lt_of_lt_of_le hi h.size) (by simp; omega)).trans (h.block i hi hn)⟩
structure FlushAt (w1 : World) (l m r : Nat) (s : Dk.St) (D : DataW (List UInt8)) (left : Lit → Bool) (cnt : Nat) (w : World) : Prop where
  rg : w.ranges Tryz.prog 3 pageR m r (Maps.size D) D left cnt
  rows : RowsAt w l (mixL s (fun i => left (.int .i64 (i : Int))))
  only : Only [l] w1 w
  sub : ∀ kl, left kl = true → Maps.has D kl = true
theorem invK : ∀ key kl, keyOf Tryz.prog 3 key = some kl → ∃ x, key = Value.int .i64 x := fun key kl h => by
  obtain ⟨x, rfl, _⟩ := Maps.keyOf_int_inv Tryz.underlying3 h
  exact ⟨x, rfl⟩
theorem invV : ∀ v (y : DataW (List UInt8) × List MemPlace), pageR v = some y → ∃ c, v = pageV c := fun v y h => by
  obtain ⟨p, _, rfl, _⟩ := pageR_inv h
  exact ⟨p, rfl⟩
theorem came {s : Dk.St} (hok : s.Ok) {D : DataW (List UInt8)} (hD : MapIs D s.cache) {x : Int} {c : List UInt8} {kl : Lit} {y : DataW (List UInt8) × List MemPlace} (hkey : keyOf Tryz.prog 3 (.int .i64 x) = some kl) (hl : Maps.has D kl = true) (hv : pageR (pageV c) = some y) (hat : ∀ zd, D.atKey kl zd = y.1) :
    ∃ i : Nat, x = (i : Int) ∧ kl = .int .i64 (i : Int) ∧ i < s.last.length ∧ Dk.cacheAt s i = some c ∧ c.length = 64 := by
  obtain ⟨x', ex, rfl, _⟩ := Maps.keyOf_int_inv Tryz.underlying3 hkey
  injection ex with _ ex
  subst ex
  rw [hD.has] at hl
  have h0 : 0 ≤ x ∧ (s.cache.getD x.toNat none).isSome = true := by simpa using hl
  obtain ⟨i, rfl⟩ := Int.eq_ofNat_of_zero_le h0.1
  rw [Int.toNat_natCast] at h0
  obtain ⟨p, hp⟩ := Option.isSome_iff_exists.1 h0.2
  obtain ⟨q, hq, e1, e2⟩ := pageR_inv hv
  have hcq := pageV_inj e1
  have := hD.held i p hp .nil
  rw [hat, e2] at this
  injection this with this
  refine ⟨i, rfl, rfl, ?_, ?_, by rw [hcq]; exact hq⟩
  · rw [List.getD_eq_getElem?_getD] at hp
    rw [← hok.same]
    by_cases hi : i < s.cache.length
    · exact hi
    · rw [List.getElem?_eq_none (by omega)] at hp; cases hp
  · unfold Dk.cacheAt; rw [hp, hcq, this]
theorem flush_loop_start {w1 w2 : World} {d l m r : Nat} {s : Dk.St} (h : DiskAt w1 d l m s) {D : DataW (List UInt8)} (hD : MapIs D s.cache) (hrg : w2.ranges Tryz.prog 3 pageR m r (Maps.size D) D (Maps.has D) (Maps.size D)) (hg : w1.grownBy w2 none) :
    FlushAt w1 l m r s D (Maps.has D) (Maps.size D) w2 where
  rg := hrg
  rows := by
    rw [mixL_start s _ (fun i hi e => by
      rw [hD.has] at e
      cases hc : Dk.cacheAt s i with
      | none => rfl
      | some p =>
        have : s.cache.getD i none = some p := hc
        rw [Int.toNat_natCast, this] at e
        simp at e)]
    exact h.rows.block (hg.block l h.llt (by simp))
  only := Only.grownNone hg
  sub := fun _ h => h
theorem flush_next {w1 w w' : World} {l m r : Nat} {s : Dk.St} {D : DataW (List UInt8)} {left : Lit → Bool} {cnt cnt' : Nat} {i : Nat} {p : List UInt8} (h : FlushAt w1 l m r s D left cnt w) (hr : w1.heap.size ≤ r) (hl : l < w1.heap.size) (_hm : m < w1.heap.size) (hlm : l ≠ m)
    (hrg : w'.ranges Tryz.prog 3 pageR m r (Maps.size D) D (fun z => left z && !z.sameKey (.int .i64 (i : Int))) cnt') (hg : w.grownBy w' (some r)) (hi : i < s.last.length) (hp : Dk.cacheAt s i = some p) (hpl : p.length = 64) {w2 : World} (hb : Below w'.heap.size w' w2) :
    RowsAt w2 l (mixL s (fun i => left (.int .i64 (i : Int)))) ∧ FlushAt w1 l m r s D (fun z => left z && !z.sameKey (.int .i64 (i : Int))) cnt' (w2.setCells l (i * 64) (byteVals p)) ∧ Only [l] w1 w2 := by
  have ho : Only [l] w1 w2 := (h.only.newer (Only.grown hg (by simp)) hr).trans (Only.below hb)
  have hlw : l < w'.heap.size := Nat.lt_of_lt_of_le (Nat.lt_of_lt_of_le hl h.only.size) hg.size
  have hrow : RowsAt w2 l (mixL s (fun i => left (.int .i64 (i : Int)))) :=
    (h.rows.block (hg.block l (Nat.lt_of_lt_of_le hl h.only.size) (fun e => by injection e with e; omega))).block (hb.block l hlw)
  refine ⟨hrow, ⟨?_, ?_, Only.setCells l (by simp) _ _ _ ho, fun kl e => h.sub kl (by simp at e; exact e.1)⟩, ho⟩
  · have h1 : w2.ranges Tryz.prog 3 pageR m r (Maps.size D) D (fun z => left z && !z.sameKey (.int .i64 (i : Int))) cnt' :=
      hrg.kept (row := none) ⟨hb.os, hb.tape, hb.output, hb.size, fun k hk _ => hb.block k hk⟩ (by simp) (by simp)
    have hrl : r ≠ l := by omega
    refine h1.kept (row := some l) ⟨?_, ?_, ?_, ?_, ?_⟩ (fun e => by injection e with e; exact hlm e.symm) (fun e => by injection e with e; exact hrl e)
    · exact (Only.setCells (a := w2) l (l := [l]) (by simp) (byteVals p) (i * 64) w2 (Only.refl _ _)).os
    · exact (Only.setCells (a := w2) l (l := [l]) (by simp) (byteVals p) (i * 64) w2 (Only.refl _ _)).tape
    · exact (Only.setCells (a := w2) l (l := [l]) (by simp) (byteVals p) (i * 64) w2 (Only.refl _ _)).output
    · exact (Only.setCells (a := w2) l (l := [l]) (by simp) (byteVals p) (i * 64) w2 (Only.refl _ _)).size
    · intro k hk hn
      exact heap_setCells_other l _ _ _ k (fun e => hn (by rw [e]))
  · have := hrow.put i (by rw [mixL_length]; exact hi) p hpl
    rw [mixL_step s _ (fun j => left (.int .i64 (j : Int)) && !(Lit.int .i64 (j : Int)).sameKey (.int .i64 (i : Int))) i p hi hp (by simp [Lit.sameKey]) (fun j hj => by
      have hne : (j : Int) ≠ (i : Int) := by omega
      simp [Lit.sameKey, hne])] at this
    exact this
theorem flush_end {w1 w w' : World} {d l m r : Nat} {s : Dk.St} (h1 : DiskAt w1 d l m s) {D : DataW (List UInt8)} {left : Lit → Bool} {cnt : Nat} (h : FlushAt w1 l m r s D left cnt w) (hleft : ∀ kl, left kl = false)
    (hm : MapAt w' m (List.replicate s.last.length none)) (ht : w.mapTurned w' m) : DiskAt w' d l m (Dk.flushed s) ∧ Only [l, m] w1 w' := by
  have hd : w'.heap[d]? = w1.heap[d]? := (ht.grown.block d (Nat.lt_of_lt_of_le h1.dlt h.only.size) (fun e => h1.dm (by injection e))).trans (h.only.block d h1.dlt (by simpa using h1.dl))
  have hrow : RowsAt w' l (Dk.flushed s).last := by
    rw [← mixL_end s (fun i => left (.int .i64 (i : Int))) (fun i => hleft _)]
    exact h.rows.block (ht.grown.block l (Nat.lt_of_lt_of_le h1.llt h.only.size) (fun e => h1.lm (by injection e)))
  have hlen : (Dk.flushed s).last.length = s.last.length := by unfold Dk.flushed; simp
  refine ⟨?_, (h.only.mono (by simp)).trans (Only.grown ht.grown (by simp))⟩
  exact { ok := Dk.flushed_ok h1.ok, dl := h1.dl, dm := h1.dm, lm := h1.lm
          c0 := (World.cell?_of_block (w := w1) (a := ⟨d, 0, none⟩) hd).trans h1.c0
          c1 := (World.cell?_of_block (w := w1) (a := ⟨d, 1, none⟩) hd).trans h1.c1
          c2 := (World.cell?_of_block (w := w1) (a := ⟨d, 2, none⟩) hd).trans h1.c2
          c3 := by rw [hlen]; exact (World.cell?_of_block (w := w1) (a := ⟨d, 3, none⟩) hd).trans h1.c3
          c4 := (World.cell?_of_block (w := w1) (a := ⟨d, 4, none⟩) hd).trans h1.c4
          f0 := (World.frozen?_of_block (w := w1) (a := ⟨d, 0, none⟩) hd).trans h1.f0
          f1 := (World.frozen?_of_block (w := w1) (a := ⟨d, 1, none⟩) hd).trans h1.f1
          f2 := (World.frozen?_of_block (w := w1) (a := ⟨d, 2, none⟩) hd).trans h1.f2
          rows := hrow, map := hm }
end

section
open Go.RowKit Go.Maps
open Dk (zeros zeros_length)
theorem flush_any {w : World} {d l m : Nat} {s : Dk.St} (h : DiskAt w d l m s) : Calls Tryz.prog 117 #[.pointer (some ⟨d, 0, none⟩)] w fun e w' =>
    e = .returned (.int .i64 (Dk.flushE s)) ∧ DiskAt w' d l m (Dk.flush s) ∧ Only [d, l, m] w w' := by
  have HD := Lib.hid h
  have HW := Lib.hid (down_any h)
  have HS := Lib.hid (spend_any h)
  cases hdn : s.down with
  | true =>
    have HE : Hid (Dk.flushE s = 5) := Lib.hid (by unfold Dk.flushE; rw [if_pos hdn])
    have HF : Hid (Dk.flush s = s) := Lib.hid (by unfold Dk.flush; rw [if_pos hdn])
    rw [HE.out, HF.out]
    rw [hdn] at HW
    clear h hdn
    go_enter Tryz.func117, Tryz.ntmps117
    go_wp2_with (go_at_call 60; refine HW.out.mono ?_; rintro e w' ⟨rfl, rfl⟩)
    go_ret
    exact ⟨rfl, HD.out, Only.refl _ _⟩
  | false =>
    rw [hdn] at HW
    have hnd : ¬ s.down = true := by rw [hdn]; simp
    have HE : Hid (Dk.flushE s = Dk.spendE s) := Lib.hid (by unfold Dk.flushE; rw [if_neg hnd])
    by_cases e0 : Dk.spendE s = 0
    · have HF : Hid (Dk.flush s = Dk.flushed (Dk.spend s)) := Lib.hid (by unfold Dk.flush; rw [if_neg hnd, if_pos e0])
      rw [HE.out, HF.out, e0]
      rw [e0] at HS
      clear h hdn hnd e0 HE HF
      generalize Dk.spend s = s1 at HS ⊢
      go_enter Tryz.func117, Tryz.ntmps117
      go_wp2_with fail
      refine HW.out.mono ?_
      rintro e w' ⟨rfl, rfl⟩
      go_wp2_with fail
      refine HS.out.mono ?_
      rintro e w1 ⟨rfl, hd1, ho1, hz1⟩
      have HD1 := Lib.hid hd1
      have HO1 := Lib.hid ho1
      have c4 := hd1.c4
      obtain ⟨D, hown, hD⟩ := hd1.map
      have HM := Lib.hid hD
      have HL := Lib.hid hd1.llt
      have HMM := Lib.hid hd1.mlt
      clear hd1 ho1 hz1 hD HW HS HD
      go_wp2_with (at_range; refine wpList_range_own _ rfl _ 102 rfl 3 68 keyLaw Tryz.underlying102 pageR m (Maps.size D) D rfl hown ?_; intro w0 hrg0 hg0 hs0)
      go_frame
      have HST := Lib.hid (flush_loop_start HD1.out HM.out hrg0 hg0)
      clear hrg0 hg0 hs0 hown
      go_loopw [20] (fun _ wr => ∃ (left : Lit → Bool) (cnt : Nat), FlushAt w1 l m w1.heap.size s1 D left cnt wr) (fun _ wr => wr.rangeLeft m w1.heap.size)
      case atStart => exact ⟨_, _, HST.out⟩
      case round =>
        obtain ⟨left, cnt, hfl⟩ := hrel
        have HFL := Lib.hid hfl
        have hrg := hfl.rg
        clear hfl HST
        go_wp2_with (at_next; refine wpList_next_ranges _ rfl _ rfl 3 keyLaw pageR (Value.int .i64) pageV invK invV m w1.heap.size (Maps.size D) D left cnt rfl hrg ?_ ?_)
        · intro _ hl0
          have HL0 := Lib.hid hl0
          clear hl0
          have c4' : wr.cell? ⟨d, 4, none⟩ = some (.map (some m)) := (HFL.out.only.cell (p := ⟨d, 4, none⟩) HD1.out.dlt (by simpa using HD1.out.dl)).trans c4
          obtain ⟨w2, hcl0, hmp, htn⟩ := MapAt.clear (w := wr) (b := m) (c := s1.cache) ⟨D, tight hrg.owns, HM.out⟩ s1.last.length 0
          have hcl : ∀ ty, (Builtin.clear_ #[102] ty #[.map (some m)]).run Tryz.prog wr = .ok (.tuple #[]) w2 := fun ty => hcl0
          clear hcl0
          go_wp2
          go_ret
          obtain ⟨q1, q2⟩ := flush_end HD1.out HFL.out HL0.out hmp htn
          exact ⟨rfl, q1, (HO1.out.mono (by simp)).trans (q2.mono (by simp))⟩
        · intro x c kl y1 y2 w2 cnt2 hkey hlx hv hat hrg2 hlt hg2 hs2 hen
          obtain ⟨i, rfl, rfl, hi, hci, hcl⟩ := came (y := (y1, y2)) HD1.out.ok HM.out hkey (HFL.out.sub _ hlx) hv hat
          have HI := Lib.hid hi
          have HCI := Lib.hid hci
          have HCL := Lib.hid hcl
          have hilen : (i : Int) < (s1.last.length : Int) := by omega
          have hi0 : (0 : Int) ≤ (i : Int) := by omega
          have HNX := Lib.hid (fun (W : World) (hb : Below w2.heap.size w2 W) => flush_next (w2 := W) HFL.out (Nat.le_refl _) HL.out HMM.out HD1.out.lm hrg2 hg2 hi hci hcl hb)
          have HLT := Lib.hid hlt
          clear hkey hlx hv hat hci hcl hi hs2 hlt hg2
          go_wp2_with (first
            | ((with_reducible refine wpList_store_new rfl (.tmp 5) (.tmp 24) rfl rfl ?_ ?_ HCL.out ?_); (exact rfl); (exact rfl); intro W2 hP hB2 hz2))
          have HQ := Lib.hid (HNX.out W2.drew hB2.drew)
          have c3'' : W2.drew.cell? ⟨d, 3, none⟩ = some (.slice (some ⟨l, 0, none⟩) s1.last.length s1.last.length) := (HQ.out.2.2.cell (p := ⟨d, 3, none⟩) HD1.out.dlt (by simpa using HD1.out.dl)).trans HD1.out.c3
          have HPP := Lib.hid hP
          clear hen hB2 hz2 hP
          refine wp_region_still_tail 7 (by kernel_rfl) (by kernel_rfl) ?_
          simp only [List.take_succ_cons, List.take_zero, List.drop_succ_cons, List.drop_zero]
          change wpStill _ _ W2.drew (fun a' => wpList _ _ _ _ a' W2.drew) _ _
          still_step
          still_step
          still_step
          still_step
          still_step
          refine wpStill_load_page (HPP.out.block rfl) rfl (.tmp 5) rfl rfl ?_
          still_step
          refine wpStill_nil ?_
          refine wpList_store_row HQ.out.1 i (by rw [mixL_length]; exact HI.out) HCL.out rfl (.tmp 31) (.tmp 30) rfl rfl rfl ?_
          go_frame
          go_wp2
          go_roundw
          case rel => exact ⟨_, _, HQ.out.2.1⟩
          case measure => rw [HQ.out.2.1.rg.left_eq, hrg.left_eq]; exact HLT.out
    · have HF : Hid (Dk.flush s = Dk.spend s) := Lib.hid (by unfold Dk.flush; rw [if_neg hnd, if_neg e0])
      rw [HE.out, HF.out]
      have hne2 : (Dk.spendE s == 0) = false := by simpa using e0
      have hne3 : (Dk.spendE s != 0) = true := by simpa using e0
      generalize Dk.spendE s = E at HS hne2 hne3 ⊢
      clear h hdn hnd e0 HE HF
      go_enter Tryz.func117, Tryz.ntmps117
      go_wp2_with fail
      refine HW.out.mono ?_
      rintro e w' ⟨rfl, rfl⟩
      go_wp2_with fail
      refine HS.out.mono ?_
      rintro e w1 ⟨rfl, hd1, ho1, hz1⟩
      go_wp2
      go_ret
      exact ⟨rfl, hd1, ho1.mono (by simp)⟩
end

section
open Go.RowKit Go.Maps
open Dk (zeros zeros_length)
structure KeepAt (w : World) (A : Option Addr) (c : Nat) (keep : List UInt8) (L : List Nat) : Prop where
  small : keep.length ≤ 1000
  room : keep.length ≤ c
  cells : 0 < keep.length → ∃ kb ko, A = some ⟨kb, ko, none⟩ ∧ kb < w.heap.size ∧ kb ∉ L ∧ ∀ j, j < keep.length → w.cell? ⟨kb, ko + j, none⟩ = some (.int .u8 ((keep.getD j 0).toNat : Int))
structure CrashAt (w : World) (l : Nat) (s : Dk.St) (keep : List UInt8) (k : Nat) (wr : World) : Prop where
  rows : RowsAt wr l (Dk.crashTo s keep k).1
  only : Only [l] w wr
def RestV (kb ko : Nat) (keep r : List UInt8) (v : Value) : Prop := ∃ j M A c, j + M = keep.length ∧ r = keep.drop j ∧ v = .slice A M c ∧ M ≤ c ∧ (0 < M → A = some ⟨kb, ko + j, none⟩)
theorem DiskAt.renew {w w' : World} {d l m : Nat} {s : Dk.St} (h : DiskAt w d l m s) (hd : w'.heap[d]? = w.heap[d]?) {last : List (List UInt8)} {cache : List (Option (List UInt8))} (hl : last.length = s.last.length) (hr : RowsAt w' l last) (hm : MapAt w' m cache)
    (hok : Dk.St.Ok { s with last := last, cache := cache }) : DiskAt w' d l m { s with last := last, cache := cache } :=
  { ok := hok, dl := h.dl, dm := h.dm, lm := h.lm
    c0 := (World.cell?_of_block (w := w) (a := ⟨d, 0, none⟩) hd).trans h.c0
    c1 := (World.cell?_of_block (w := w) (a := ⟨d, 1, none⟩) hd).trans h.c1
    c2 := (World.cell?_of_block (w := w) (a := ⟨d, 2, none⟩) hd).trans h.c2
    c3 := (World.cell?_of_block (w := w) (a := ⟨d, 3, none⟩) hd).trans (by show _ = some (Value.slice _ last.length last.length); rw [hl]; exact h.c3)
    c4 := (World.cell?_of_block (w := w) (a := ⟨d, 4, none⟩) hd).trans h.c4
    f0 := (World.frozen?_of_block (w := w) (a := ⟨d, 0, none⟩) hd).trans h.f0
    f1 := (World.frozen?_of_block (w := w) (a := ⟨d, 1, none⟩) hd).trans h.f1
    f2 := (World.frozen?_of_block (w := w) (a := ⟨d, 2, none⟩) hd).trans h.f2
    rows := hr, map := hm }
theorem crash_end {w wr w2 : World} {d l m : Nat} {s : Dk.St} (h : DiskAt w d l m s) {keep : List UInt8} {k : Nat} (hc : CrashAt w l s keep k wr) (hfin : Dk.crashTo s keep s.last.length = Dk.crashTo s keep k)
    (hm : MapAt w2 m (List.replicate s.last.length none)) (ht : wr.mapTurned w2 m) :
    DiskAt w2 d l m { s with last := (Dk.crashTo s keep s.last.length).1, cache := List.replicate s.last.length none } ∧ Only [d, l, m] w w2 ∧ DiskAt (((w2.setCell ⟨d, 0, none⟩ (.bool false)).setCell ⟨d, 1, none⟩ (.int .i64 0)).setCell ⟨d, 2, none⟩ (.bool false)) d l m (Dk.crash s keep) := by
  have hcr := Dk.crash_ok h.ok keep
  have hd : w2.heap[d]? = w.heap[d]? := (ht.grown.block d (Nat.lt_of_lt_of_le h.dlt hc.only.size) (fun e => h.dm (by injection e))).trans (hc.only.block d h.dlt (by simpa using h.dl))
  have hrow : RowsAt w2 l (Dk.crashTo s keep s.last.length).1 := by
    rw [hfin]
    exact hc.rows.block (ht.grown.block l (Nat.lt_of_lt_of_le h.llt hc.only.size) (fun e => h.lm (by injection e)))
  have h1 := h.renew hd (Dk.crashTo_len s keep s.last.length) hrow hm ⟨hcr.same, hcr.pos, hcr.small, hcr.pages, hcr.cpages, h.ok.lo, h.ok.hi, h.ok.live⟩
  refine ⟨h1, (hc.only.mono (by simp)).trans (Only.grown ht.grown (by simp)), ?_⟩
  exact (h1.setFuse false 0 ⟨hcr.same, hcr.pos, hcr.small, hcr.pages, hcr.cpages, by show _ ≤ (0 : Int); omega, by show (0 : Int) ≤ _; omega, fun e => by cases e⟩).setDown false
theorem crash_step {w wr W2 : World} {d l m : Nat} {s : Dk.St} (h : DiskAt w d l m s) {keep : List UInt8} {k : Nat} (hc : CrashAt w l s keep k wr) (hb : Below wr.heap.size wr W2) : CrashAt w l s keep k W2 :=
  ⟨hc.rows.block (hb.block l (Nat.lt_of_lt_of_le h.llt hc.only.size)), hc.only.trans (Only.below hb)⟩
theorem CrashAt.disk {w wr : World} {d l m : Nat} {s : Dk.St} (h : DiskAt w d l m s) {keep : List UInt8} {k : Nat} (hc : CrashAt w l s keep k wr) :
    wr.cell? ⟨d, 3, none⟩ = some (.slice (some ⟨l, 0, none⟩) s.last.length s.last.length) ∧ wr.cell? ⟨d, 4, none⟩ = some (.map (some m)) ∧ MapAt wr m s.cache :=
  ⟨(hc.only.cell (p := ⟨d, 3, none⟩) h.dlt (by simpa using h.dl)).trans h.c3, (hc.only.cell (p := ⟨d, 4, none⟩) h.dlt (by simpa using h.dl)).trans h.c4, h.map.block (hc.only.block m h.mlt (by simpa using Ne.symm h.lm))⟩
theorem crash_put {w W : World} {d l m : Nat} {s : Dk.St} (h : DiskAt w d l m s) {keep r : List UInt8} {k : Nat} {p : List UInt8} {c : UInt8} (hc : CrashAt w l s keep k W) (hk : k < s.last.length) (hp : Dk.cacheAt s k = some p) (hr : (Dk.crashTo s keep k).2 = c :: r) :
    CrashAt w l s keep (k + 1) (W.setCells l (k * 64) (byteVals (Dk.torn (Dk.lastAt s k) p c))) ∧ (Dk.crashTo s keep (k + 1)).2 = r := by
  have e : Dk.crashTo s keep (k + 1) = ((Dk.crashTo s keep k).1.set k (Dk.torn (Dk.lastAt s k) p c), r) := Dk.crashOne_some hp hr
  refine ⟨⟨?_, Only.setCells l (by simp) _ _ _ hc.only⟩, by rw [e]⟩
  rw [e]
  exact hc.rows.put k (by rw [Dk.crashTo_len]; exact hk) _ (Dk.torn_len c (Dk.lastAt_len h.ok hk) (Dk.cacheAt_len h.ok hp))
theorem run_slice_tail (A : Option Addr) (kb o K C : Nat) (hA : A = some ⟨kb, o, none⟩) (hKC : K ≤ C) : ∃ A', (∀ w : World, (Instr.slice 48 (.slice A (K + 1) (C + 1)) (some (.int .i64 1)) none none).run Tryz.prog w = .ok (.slice A' K C) w) ∧ (0 < K → A' = some ⟨kb, o + 1, none⟩) := by
  have eB : Tryz.prog.elem 48 = 5 := by kernel_rfl
  have uB : Tryz.prog.underlying 48 = some (.slice (Tryz.prog.elem 48)) := by rw [eB]; exact Tryz.underlying48
  refine ⟨if C + 1 = 1 then A else A.map (·.add (1 * 1)), fun w => ?_, fun h0 => ?_⟩
  · have := run_slice_l w 48 A (K + 1) (C + 1) uB .i64 1 (by omega) (by omega)
    rw [eB, run_size8, Result.andThen_ok] at this
    exact this
  show (if C + 1 = 1 then A else A.map (·.add (1 * 1))) = _
  rw [if_neg (by omega), hA]
  show some (Addr.add _ _) = _
  rw [Addr.add_mid]
end

section
open Go.RowKit
open Dk (zeros zeros_length)
section
variable {ops : Array Oper} {Q : Exit → Act → World → Prop} {md : Region.Mode} {S : World → Prop}
theorem take_at {P : Program} {i : Nat} {oi : Oper} {v : Value} {fuel : Nat} {listed : Array Bool} {a : Act} {w : World} {d : Option Tmp} (hi : ops[i]? = some oi) (hd : oi.dst = d)
    (hs : Region.noSelect ops = true) (hf : Region.free md ops listed i = true) (hr : (Region.ready md ops listed).contains i = true)
    (hQ : ∀ c a w, Q (.panic c) (a.put oi.dst v) w → Q (.panic c) a w) (hy : YieldsIf P ops S oi v a) (hS : S w)
    (h : wpAnyH P md ops Q S fuel (listed.setIfInBounds i true) (a.put d v) w) : wpAnyH P md ops Q S (fuel + 1) listed a w :=
  wpAnyH_take hi hs hf hr hQ hy hS (hd ▸ h)
theorem yields_page {oi : Oper} {a : Act} {b o : Nat} {p : List UInt8} (hw : Region.wanted oi (yielded ops a.tmps) = true) (x : Operand) (ho : oi.op = .load 68 x) (hx : a.eval x = .pointer (some ⟨b, o, none⟩)) (hp : p.length = 64) (hS : ∀ w, S w → w.rangeAt b o (byteVals p)) :
    YieldsIf Tryz.prog ops S oi (pageV p) a :=
  yieldsIf_load_mid hw 68 x ho b o hx (byteVals p) _ hS Tryz.underlying68 rfl (by rw [page_info, byteVals_length, hp])
theorem anyH_one {P : Program} {i : Nat} {oi : Oper} {fuel : Nat} {listed : Array Bool} {a : Act} {w : World} (hr : Region.ready md ops listed = [i]) (hi : ops[i]? = some oi) (hw : Region.wanted oi (yielded ops a.tmps) = true)
    (h : ∀ K : Act → World → Prop, (∀ a w, S w → wpAnyH P md ops Q S fuel (listed.setIfInBounds i true) a w → K a w) → Oper.wp P oi a w K Q) : wpAnyH P md ops Q S (fuel + 1) listed a w := by
  refine wpAnyH_ready hr (by simp) (AllReadyH.cons hi (fun K hK => ?_) AllReadyH.nil)
  rw [if_pos hw]
  exact h K (fun a w hS hW => hK.out a w hS (fun _ => hW))
theorem anyH_load_row {i : Nat} {oi : Oper} {fuel : Nat} {listed : Array Bool} {a : Act} {w : World} {b : Nat} {ps : List (List UInt8)} (h : RowsAt w b ps) (n : Nat) {p : List UInt8} (hn : ps[n]? = some p)
    (hr : Region.ready md ops listed = [i]) (hi : ops[i]? = some oi) (hw : Region.wanted oi (yielded ops a.tmps) = true) (x : Operand) (ho : oi.op = .load 68 x) (hx : a.eval x = .pointer (some ⟨b, n * 64, none⟩)) (d : Option Tmp) (hd : oi.dst = d) (hS : S w)
    (hK : wpAnyH Tryz.prog md ops Q S fuel (listed.setIfInBounds i true) (a.put d (pageV p)) w) : wpAnyH Tryz.prog md ops Q S (fuel + 1) listed a w :=
  anyH_one hr hi hw fun _ hK' => wp_load_mid 68 x ho b (n * 64) hx (byteVals p) _ (h.range n p hn) Tryz.underlying68 rfl (by rw [page_info, byteVals_length, h.size p (List.mem_of_getElem? hn)]) (hK' _ _ hS (hd ▸ hK))
theorem anyH_store_row {i : Nat} {oi : Oper} {fuel : Nat} {listed : Array Bool} {a : Act} {w : World} {b : Nat} {ps : List (List UInt8)} (h : RowsAt w b ps) (n : Nat) (hn : n < ps.length) {p : List UInt8} (hp : p.length = 64)
    (hr : Region.ready md ops listed = [i]) (hi : ops[i]? = some oi) (hw : Region.wanted oi (yielded ops a.tmps) = true) (x y : Operand) (ho : oi.op = .store 68 x y) (hx : a.eval x = .pointer (some ⟨b, n * 64, none⟩)) (hy : a.eval y = pageV p) (d : Option Tmp) (hd : oi.dst = d)
    (hS : S (w.setCells b (n * 64) (byteVals p)))
    (hK : wpAnyH Tryz.prog md ops Q S fuel (listed.setIfInBounds i true) (a.put d undef) (w.setCells b (n * 64) (byteVals p))) : wpAnyH Tryz.prog md ops Q S (fuel + 1) listed a w :=
  anyH_one hr hi hw fun _ hK' => wp_store_mid 68 x y ho b (n * 64) (byteVals p).toArray hx hy (by rw [List.size_toArray, byteVals_length, hp]; exact h.thereAt n hn) (by rw [page_info, List.size_toArray, byteVals_length, hp]) (all_oneCell_toArray (byteVals_one p)) (by
    rw [List.toList_toArray]
    exact hK' _ _ hS (hd ▸ hK))
end
end

section
open Go.RowKit Go.Maps
open Dk (zeros zeros_length)
theorem keepC {W W' : World} {d B kb o : Nat} {v u : Value} {p : List UInt8} (hb : Below W.heap.size W W') (h : W.cell? ⟨d, 3, none⟩ = some v ∧ PageAt W B p ∧ W.cell? ⟨kb, o, none⟩ = some u) :
    W'.cell? ⟨d, 3, none⟩ = some v ∧ PageAt W' B p ∧ W'.cell? ⟨kb, o, none⟩ = some u :=
  ⟨(hb.cell (p := ⟨d, 3, none⟩) (World.block_lt_of_cell? W _ h.1)).trans h.1, h.2.1.below hb h.2.1.lt, (hb.cell (p := ⟨kb, o, none⟩) (World.block_lt_of_cell? W _ h.2.2)).trans h.2.2⟩
theorem keepP {W : World} {d B kb o l i : Nat} {v u : Value} {p : List UInt8} {vs : List Value} (h : W.cell? ⟨d, 3, none⟩ = some v ∧ PageAt W B p ∧ W.cell? ⟨kb, o, none⟩ = some u) (h1 : d ≠ l) (h2 : B ≠ l) (h3 : kb ≠ l) :
    (W.setCells l i vs).cell? ⟨d, 3, none⟩ = some v ∧ PageAt (W.setCells l i vs) B p ∧ (W.setCells l i vs).cell? ⟨kb, o, none⟩ = some u :=
  ⟨(World.cell?_of_block (w := W) (a := ⟨d, 3, none⟩) (heap_setCells_other l vs i W d h1)).trans h.1, h.2.1.block (heap_setCells_other l vs i W B h2), (World.cell?_of_block (w := W) (a := ⟨kb, o, none⟩) (heap_setCells_other l vs i W kb h3)).trans h.2.2⟩
theorem crash_row {w : World} {d l m : Nat} {s : Dk.St} (h : DiskAt w d l m s) (A : Option Addr) (cp : Nat) (keep : List UInt8) (kb ko : Nat) (_hsm : keep.length ≤ 1000) (hroom : keep.length ≤ cp) (hA : 0 < keep.length → A = some ⟨kb, ko, none⟩)
    (hkc : ∀ j, j < keep.length → kb < w.heap.size ∧ kb ∉ [d, l, m] ∧ w.cell? ⟨kb, ko + j, none⟩ = some (.int .u8 ((keep.getD j 0).toNat : Int))) :
    Calls Tryz.prog 23 #[.pointer (some ⟨d, 0, none⟩), .slice A keep.length cp] w fun e w' =>
    e = .returned (.tuple #[]) ∧ DiskAt w' d l m (Dk.crash s keep) ∧ Only [d, l, m] w w' := by
  have HD := Lib.hid h
  have HK := Lib.hid hkc
  have HAA := Lib.hid hA
  have HR0 : Hid (RestV kb ko keep keep (.slice A keep.length cp)) := Lib.hid ⟨0, keep.length, A, cp, by omega, rfl, rfl, hroom, hA⟩
  have HN : Hid (s.last.length ≤ 512) := Lib.hid h.ok.small
  have hn := h.ok.small
  have c3 := h.c3
  clear h hkc hA
  go_enter Tryz.func23, Tryz.ntmps23
  go_wp2_with fail
  go_loopw [1, 14] (fun v i wr => ∃ k : Nat, k ≤ s.last.length ∧ i = .int .i64 k ∧ RestV kb ko keep (Dk.crashTo s keep k).2 v ∧ CrashAt w l s keep k wr) (fun _ i _ => s.last.length - (intOf i).toNat)
  case atStart => exact ⟨0, Nat.zero_le _, rfl, HR0.out, ⟨HD.out.rows, Only.refl _ _⟩⟩
  case round =>
    obtain ⟨k, hk, rfl, ⟨j, M, A1, c1, hjM, hr, rfl, hMc, hA1⟩, hcr⟩ := hrel
    have HC := Lib.hid hcr
    have HR := Lib.hid hr
    have HJM := Lib.hid hjM
    have HA1 := Lib.hid hA1
    clear hr hjM hA1
    obtain ⟨q3, q4, q5⟩ := hcr.disk HD.out
    clear hcr
    by_cases hlt : k < s.last.length
    · have hlook := q5.look k (by omega)
      have hk0 : (0 : Int) ≤ (k : Int) := by omega
      have hk1 : (k : Int) < (s.last.length : Int) := by omega
      clear q5
      cases hca : Dk.cacheAt s k with
      | none =>
        have HE : Hid (Dk.crashTo s keep (k + 1) = Dk.crashTo s keep k) := Lib.hid (Dk.crashOne_none hca)
        have hca' : s.cache.getD k none = none := hca
        rw [hca'] at hlook
        simp only [Option.getD_none, Option.isSome_none] at hlook
        clear hca hca'
        go_wp2_with ((with_reducible refine wpList_store_new rfl (.tmp 5) (.tmp 24) rfl rfl ?_ ?_ zeros_length ?_); (exact rfl); (exact rfl); intro W2 hP hB2 hz2; clear hlook q3 q4)
        go_roundw
        case rel =>
          refine ⟨k + 1, by omega, by go_num, ?_, ?_⟩
          · rw [HE.out]; exact ⟨j, M, A1, c1, HJM.out, HR.out, rfl, hMc, HA1.out⟩
          · have := crash_step HD.out HC.out hB2
            exact ⟨HE.out ▸ this.rows, this.only⟩
        case measure => simp [intOf]; omega
      | some p =>
        have hca' : s.cache.getD k none = some p := hca
        rw [hca'] at hlook
        simp only [Option.getD_some, Option.isSome_some] at hlook
        have HPL := Lib.hid (Dk.cacheAt_len HD.out.ok hca)
        have HCA := Lib.hid hca
        clear hca hca'
        cases M with
        | zero =>
          have HNIL : Hid ((Dk.crashTo s keep k).2 = []) := Lib.hid (by rw [HR.out]; exact List.drop_of_length_le (by have := HJM.out; omega))
          have HFIN : Hid (Dk.crashTo s keep s.last.length = Dk.crashTo s keep k) := Lib.hid (by
            have := Dk.crashTo_nil s keep k HNIL.out (s.last.length - k)
            rwa [show k + (s.last.length - k) = s.last.length by omega] at this)
          go_wp2_with ((with_reducible refine wpList_store_new rfl (.tmp 5) (.tmp 24) rfl rfl ?_ ?_ HPL.out ?_); (exact rfl); (exact rfl); intro W2 hP hB2 hz2; clear hlook q3 q4; have HC2 := Lib.hid (crash_step HD.out HC.out hB2); clear HC hB2 hz2 hP; have HC := HC2; have HQM := Lib.hid (HC.out.disk HD.out); obtain ⟨w2, hcl0, hmp, htn⟩ := MapAt.clear HQM.out.2.2 s.last.length 0; have hcl : ∀ ty, (Builtin.clear_ #[102] ty #[.map (some m)]).run Tryz.prog W2 = .ok (.tuple #[]) w2 := fun ty => hcl0; have HEND := Lib.hid (crash_end HD.out HC.out HFIN.out hmp htn); have c4' := HQM.out.2.1; have c0 := HEND.out.1.c0; have c1 := HEND.out.1.c1; have c2 := HEND.out.1.c2; have f0 := HEND.out.1.f0; have f1 := HEND.out.1.f1; have f2 := HEND.out.1.f2; clear hcl0 hmp htn)
          skip
          go_end0
          exact ⟨rfl, HEND.out.2.2, ((HEND.out.2.1.setCell (by simp) _).setCell (by simp) _).setCell (by simp) _⟩
        | succ M =>
          obtain ⟨c0, r0, hcr⟩ : ∃ c0 r0, (Dk.crashTo s keep k).2 = c0 :: r0 ∧ r0 = keep.drop (j + 1) ∧ keep.getD j 0 = c0 := by
            have hj : j < keep.length := by have := HJM.out; omega
            refine ⟨keep[j], keep.drop (j + 1), by rw [HR.out]; exact List.drop_eq_getElem_cons hj, rfl, ?_⟩
            rw [List.getD_eq_getElem?_getD, List.getElem?_eq_getElem hj]; rfl
          obtain ⟨hcr1, hcr2, hcr3⟩ := hcr
          have HCR1 := Lib.hid hcr1
          have HCR2 := Lib.hid hcr2
          obtain ⟨C, rfl⟩ : ∃ C, c1 = C + 1 := ⟨c1 - 1, by omega⟩
          have hA1' := HA1.out (by omega)
          subst hA1'
          obtain ⟨A2, hslw, hA2⟩ := run_slice_tail (some ⟨kb, ko + j, none⟩) kb (ko + j) M C rfl (by omega)
          have hslw2 : ∀ W : World, (Instr.sliceAt 48 (.slice (some ⟨kb, ko + j, none⟩) (M + 1) (C + 1)) (some (.int .i64 1)) none none).run Tryz.prog W = .ok (.slice A2 M C) W := fun W => (run_sliceAt_slice W 48 _ _ _ _ (by kernel_rfl)).trans (hslw W)
          have HA2 := Lib.hid hA2
          have hkj := HK.out j (by have := HJM.out; omega)
          rw [hcr3] at hkj
          have HKJ := Lib.hid hkj
          have hrow : (Dk.crashTo s keep k).1[k]? = some (Dk.lastAt s k) := by
            rw [Dk.crashTo_behind s keep k k (Nat.le_refl _)]
            unfold Dk.lastAt
            rw [List.getD_eq_getElem?_getD, List.getElem?_eq_getElem hlt]; rfl
          have HROW := Lib.hid hrow
          have HLL := Lib.hid (Dk.lastAt_len HD.out.ok hlt)
          have HT := Lib.hid (fun (W : World) => torn_any (Dk.lastAt s k) p c0 W HLL.out HPL.out)
          have HTL := Lib.hid (Dk.torn_len c0 HLL.out HPL.out)
          have hM0 : (0 : Int) < (M : Int) + 1 := by omega
          have hM1 : 0 < M + 1 := by omega
          have hM2 : ((M : Int) + 1 == 0) = false := by rw [beq_eq_false_iff_ne]; omega
          clear hcr1 hcr2 hcr3 hA2 hkj hrow
          go_wp2_with ((with_reducible refine wpList_store_new rfl (.tmp 5) (.tmp 24) rfl rfl ?_ ?_ HPL.out ?_); (exact rfl); (exact rfl); intro W2 hP hB2 hz2; clear hlook q3 q4)
          have HC2 := Lib.hid (crash_step HD.out HC.out hB2.drew)
          have HPP := Lib.hid (PageAt.drew hP)
          have e3 := (HC2.out.disk HD.out).1
          have ek : W2.drew.cell? ⟨kb, ko + j, none⟩ = some (.int .u8 (c0.toNat : Int)) := (HC2.out.only.cell (p := ⟨kb, ko + j, none⟩) HKJ.out.1 (fun q => HKJ.out.2.1 (by simp at q; simp [q]))).trans HKJ.out.2.2
          clear hB2 hz2 hP
          have HNL : Hid (wr.heap.size ≠ l) := Lib.hid (by have := Nat.lt_of_lt_of_le HD.out.llt HC.out.only.size; omega)
          have HKL : Hid (kb ≠ l) := Lib.hid (fun q => HKJ.out.2.1 (by simp [q]))
          refine wp_region_noPanic ?_
          refine wp_region_held_drew (S := fun W => W.cell? ⟨d, 3, none⟩ = some (.slice (some ⟨l, 0, none⟩) s.last.length s.last.length) ∧ PageAt W wr.heap.size p ∧ W.cell? ⟨kb, ko + j, none⟩ = some (.int .u8 (c0.toNat : Int))) (by kernel_rfl) ⟨e3, HPP.out, ek⟩ (fun hHeld => ?_)
          generalize W2.drew = W3 at HC2 HPP e3 ek hHeld ⊢
          refine take_at (i := 0) (d := some 31) (v := .pointer (some ⟨d, 0, none⟩)) rfl rfl (by kernel_rfl) (by kernel_rfl) (by kernel_rfl) (fun _ _ _ h => h) (Or.inl ⟨by kernel_rfl, ?_⟩) hHeld ?_
          · intro w hSw; obtain ⟨s1, s2, s3⟩ := hSw; go_simp
          (try simp only [Act.put, puA, puB, puC])
          refine take_at (i := 1) (d := some 32) (v := .pointer (some ⟨d, 0, none⟩)) rfl rfl (by kernel_rfl) (by kernel_rfl) (by kernel_rfl) (fun _ _ _ h => h) (Or.inl ⟨by kernel_rfl, ?_⟩) hHeld ?_
          · intro w hSw; obtain ⟨s1, s2, s3⟩ := hSw; go_simp
          (try simp only [Act.put, puA, puB, puC])
          refine take_at (i := 2) (d := some 33) (v := .pointer (some ⟨d, 3, none⟩)) rfl rfl (by kernel_rfl) (by kernel_rfl) (by kernel_rfl) (fun _ _ _ h => h) (Or.inl ⟨by kernel_rfl, ?_⟩) hHeld ?_
          · intro w hSw; obtain ⟨s1, s2, s3⟩ := hSw; go_simp
          (try simp only [Act.put, puA, puB, puC])
          refine take_at (i := 3) (d := some 34) (v := .slice (some ⟨l, 0, none⟩) s.last.length s.last.length) rfl rfl (by kernel_rfl) (by kernel_rfl) (by kernel_rfl) (fun _ _ _ h => h) (Or.inl ⟨by kernel_rfl, ?_⟩) hHeld ?_
          · intro w hSw; obtain ⟨s1, s2, s3⟩ := hSw; go_simp
          (try simp only [Act.put, puA, puB, puC])
          refine take_at (i := 4) (d := some 35) (v := .int .i64 (k : Int)) rfl rfl (by kernel_rfl) (by kernel_rfl) (by kernel_rfl) (fun _ _ _ h => h) (Or.inl ⟨by kernel_rfl, ?_⟩) hHeld ?_
          · intro w hSw; obtain ⟨s1, s2, s3⟩ := hSw; go_simp
          (try simp only [Act.put, puA, puB, puC])
          refine take_at (i := 5) (d := some 36) (v := .pointer (some ⟨d, 0, none⟩)) rfl rfl (by kernel_rfl) (by kernel_rfl) (by kernel_rfl) (fun _ _ _ h => h) (Or.inl ⟨by kernel_rfl, ?_⟩) hHeld ?_
          · intro w hSw; obtain ⟨s1, s2, s3⟩ := hSw; go_simp
          (try simp only [Act.put, puA, puB, puC])
          refine take_at (i := 6) (d := some 37) (v := .pointer (some ⟨d, 0, none⟩)) rfl rfl (by kernel_rfl) (by kernel_rfl) (by kernel_rfl) (fun _ _ _ h => h) (Or.inl ⟨by kernel_rfl, ?_⟩) hHeld ?_
          · intro w hSw; obtain ⟨s1, s2, s3⟩ := hSw; go_simp
          (try simp only [Act.put, puA, puB, puC])
          refine take_at (i := 7) (d := some 38) (v := .pointer (some ⟨d, 3, none⟩)) rfl rfl (by kernel_rfl) (by kernel_rfl) (by kernel_rfl) (fun _ _ _ h => h) (Or.inl ⟨by kernel_rfl, ?_⟩) hHeld ?_
          · intro w hSw; obtain ⟨s1, s2, s3⟩ := hSw; go_simp
          (try simp only [Act.put, puA, puB, puC])
          refine take_at (i := 8) (d := some 39) (v := .slice (some ⟨l, 0, none⟩) s.last.length s.last.length) rfl rfl (by kernel_rfl) (by kernel_rfl) (by kernel_rfl) (fun _ _ _ h => h) (Or.inl ⟨by kernel_rfl, ?_⟩) hHeld ?_
          · intro w hSw; obtain ⟨s1, s2, s3⟩ := hSw; go_simp
          (try simp only [Act.put, puA, puB, puC])
          refine take_at (i := 9) (d := some 40) (v := .int .i64 (k : Int)) rfl rfl (by kernel_rfl) (by kernel_rfl) (by kernel_rfl) (fun _ _ _ h => h) (Or.inl ⟨by kernel_rfl, ?_⟩) hHeld ?_
          · intro w hSw; obtain ⟨s1, s2, s3⟩ := hSw; go_simp
          (try simp only [Act.put, puA, puB, puC])
          refine take_at (i := 10) (d := some 41) (v := .pointer (some ⟨l, k * 64, none⟩)) rfl rfl (by kernel_rfl) (by kernel_rfl) (by kernel_rfl) (fun _ _ _ h => h) (Or.inl ⟨by kernel_rfl, ?_⟩) hHeld ?_
          · intro w hSw; obtain ⟨s1, s2, s3⟩ := hSw; go_simp
          (try simp only [Act.put, puA, puB, puC])
          refine take_at (i := 12) (d := some 43) (v := pageV p) rfl rfl (by kernel_rfl) (by kernel_rfl) (by kernel_rfl) (fun _ _ _ h => h) (yields_page (by kernel_rfl) (.tmp 5) rfl rfl HPL.out (fun _ hSw => hSw.2.1.range)) hHeld ?_
          (try simp only [Act.put, puA, puB, puC])
          refine take_at (i := 13) (d := some 44) (v := .slice (some ⟨kb, ko + j, none⟩) (M + 1) (C + 1)) rfl rfl (by kernel_rfl) (by kernel_rfl) (by kernel_rfl) (fun _ _ _ h => h) (Or.inl ⟨by kernel_rfl, ?_⟩) hHeld ?_
          · intro w hSw; obtain ⟨s1, s2, s3⟩ := hSw; go_simp
          (try simp only [Act.put, puA, puB, puC])
          refine take_at (i := 14) (d := some 45) (v := .pointer (some ⟨kb, ko + j, none⟩)) rfl rfl (by kernel_rfl) (by kernel_rfl) (by kernel_rfl) (fun _ _ _ h => h) (Or.inl ⟨by kernel_rfl, ?_⟩) hHeld ?_
          · intro w hSw; obtain ⟨s1, s2, s3⟩ := hSw; go_simp
          (try simp only [Act.put, puA, puB, puC])
          refine take_at (i := 15) (d := some 46) (v := .int .u8 (c0.toNat : Int)) rfl rfl (by kernel_rfl) (by kernel_rfl) (by kernel_rfl) (fun _ _ _ h => h) (Or.inl ⟨by kernel_rfl, ?_⟩) hHeld ?_
          · intro w hSw; obtain ⟨s1, s2, s3⟩ := hSw; go_simp
          (try simp only [Act.put, puA, puB, puC])
          refine anyH_load_row (i := 11) HC2.out.rows k HROW.out (by kernel_rfl) rfl (by kernel_rfl) (.tmp 41) rfl rfl (some 42) rfl hHeld ?_
          (try simp only [Act.put, puA, puB, puC])
          refine wpAnyH_ready (rs := [16]) (by kernel_rfl) (by simp) ?_
          refine AllReadyH.cons rfl (fun K hK => ?_) AllReadyH.nil
          go_simp
          (go_at_call 59; refine (HT.out _).mono ?_; rintro e W4 ⟨rfl, hB4⟩; have HC4 := Lib.hid (crash_step HD.out HC2.out hB4); have HC5 := Lib.hid (crash_put HD.out HC4.out hlt HCA.out HCR1.out))
          (try go_wp2_with fail)
          refine hK.out _ _ (keepC hB4 hHeld) (fun hHeld => ?_)
          clear hK K
          (try simp only [Act.put, puA, puB, puC])
          refine take_at (i := 17) (d := some 48) (v := .pointer (some ⟨l, k * 64, none⟩)) rfl rfl (by kernel_rfl) (by kernel_rfl) (by kernel_rfl) (fun _ _ _ h => h) (Or.inl ⟨by kernel_rfl, ?_⟩) hHeld ?_
          · intro w hSw; obtain ⟨s1, s2, s3⟩ := hSw; go_simp
          (try simp only [Act.put, puA, puB, puC])
          refine anyH_store_row (i := 18) HC4.out.rows k (by rw [Dk.crashTo_len]; exact hlt) HTL.out (by kernel_rfl) rfl (by kernel_rfl) (.tmp 48) (.tmp 47) rfl rfl rfl none rfl (keepP hHeld HD.out.dl HNL.out HKL.out) ?_
          (try simp only [Act.put])
          refine wpAnyH_done (by kernel_rfl) ?_ _
          refine NoPanic.normal ?_
          go_wp2
          go_roundw
          case rel =>
            refine ⟨k + 1, by omega, by go_num, ?_, HC5.out.1⟩
            rw [HC5.out.2]
            exact ⟨j + 1, M, A2, C, by have := HJM.out; omega, HCR2.out, rfl, by omega, fun h0 => by rw [HA2.out h0]; rfl⟩
          case measure => simp [intOf]; omega
    · obtain rfl : k = s.last.length := by omega
      have HFIN : Hid (Dk.crashTo s keep s.last.length = Dk.crashTo s keep s.last.length) := Lib.hid rfl
      clear q3 q4 q5
      have HQM := Lib.hid (HC.out.disk HD.out)
      obtain ⟨w2, hcl0, hmp, htn⟩ := MapAt.clear HQM.out.2.2 s.last.length 0
      have hcl : ∀ ty, (Builtin.clear_ #[102] ty #[.map (some m)]).run Tryz.prog wr = .ok (.tuple #[]) w2 := fun ty => hcl0
      have HEND := Lib.hid (crash_end HD.out HC.out HFIN.out hmp htn)
      have c4' := HQM.out.2.1
      have c0 := HEND.out.1.c0
      have c1 := HEND.out.1.c1
      have c2 := HEND.out.1.c2
      have f0 := HEND.out.1.f0
      have f1 := HEND.out.1.f1
      have f2 := HEND.out.1.f2
      clear hcl0 hmp htn
      go_wp2
      go_end0
      exact ⟨rfl, HEND.out.2.2, ((HEND.out.2.1.setCell (by simp) _).setCell (by simp) _).setCell (by simp) _⟩
theorem crash_any {w : World} {d l m : Nat} {s : Dk.St} (h : DiskAt w d l m s) (A : Option Addr) (cp : Nat) (keep : List UInt8) (hk : KeepAt w A cp keep [d, l, m]) :
    Calls Tryz.prog 23 #[.pointer (some ⟨d, 0, none⟩), .slice A keep.length cp] w fun e w' =>
    e = .returned (.tuple #[]) ∧ DiskAt w' d l m (Dk.crash s keep) ∧ Only [d, l, m] w w' := by
  by_cases h0 : 0 < keep.length
  · obtain ⟨kb, ko, e, h1, h2, h3⟩ := hk.cells h0
    exact crash_row h A cp keep kb ko hk.small hk.room (fun _ => e) (fun j hj => ⟨h1, h2, h3 j hj⟩)
  · exact crash_row h A cp keep 0 0 hk.small hk.room (fun q => absurd q h0) (fun j hj => by omega)
end

section
open Go.ChangeShapes Go.WideShapes Go.ChangeAt Go.RowKit
open Dk (zeros zeros_length)
theorem run_neGuard_page (w : World) (x y : Operand) (p q : List UInt8) : (eqGuard .neq 68 x y (pageV p) (pageV q)).run Tryz.prog w = .ok () w :=
  run_eqGuard_agg w .neq 68 x y _ _ (by kernel_rfl)
theorem run_neq_same (w : World) (p : List UInt8) (hp : p.length = 64) : (binOp .neq 68 (pageV p) (pageV p)).run Tryz.prog w = .ok (.bool false) w := by
  rw [run_neq_page w p p hp hp]; simp
theorem laidOut : laidOutB Tryz.prog = true := by kernel_rfl
theorem own : ownKnob Tryz.prog.godebug = none := by kernel_rfl
end

section
open Go.RowKit
open Dk (zeros zeros_length)
open Hd (Head rightB pageH)
theorem run_neq_not (w : World) (p q : List UInt8) (hp : p.length = 64) (hq : q.length = 64) (h : p ≠ q) : (binOp .neq 68 (pageV p) (pageV q)).run Tryz.prog w = .ok (.bool true) w := by
  rw [run_neq_page w p q hp hq, decide_eq_false h]; rfl
theorem rdS_box (w : World) (p : List UInt8) (h : Head) (hp : p.length = 64) : RdS w p h false ((w.alloc (.cells (byteVals p).toArray 68)).alloc (.cells #[.int .i64 0, .bool false, .int .i64 0, .int .u32 0] 191)) where
  page := (pageAt_new w p _ hp).alloc _
  res := by
    have := headAt_new (w.alloc (.cells (byteVals p).toArray 68)) Hd.zero 191
    have e : (w.alloc (.cells (byteVals p).toArray 68)).heap.size = w.heap.size + 1 := by simp
    rw [e] at this
    exact this
  below := ((Below.refl _ _).alloc (Nat.le_refl _) _).alloc (by simp) _
theorem decode_yes (p : List UInt8) (w : World) (hp : p.length = 64) (h : Hd.wholeB p = true) :
    Calls Tryz.prog 161 #[pageV p] w fun e w' => e = .returned (.tuple #[headV (Hd.readH p), .bool true]) ∧ Below w.heap.size w w' := by
  have HP := Lib.hid hp
  have hbd := Hd.read_bd p hp
  have HR := Lib.hid (fun (w : World) => hread_any p w hp)
  have HS := Lib.hid (rdS_box w p (Hd.readH p) hp)
  have HE : Hid (∀ w, Calls Tryz.prog 166 #[headV (Hd.readH p)] w fun e w' => e = .returned (.tuple #[pageV p, .int .i64 0]) ∧ Below w.heap.size w w') := Lib.hid (fun w => by
    have := encode_yes (Hd.readH p) w (Hd.whole_yes h).1 hbd.2.2.2.2.1 hbd.2.2.2.2.2
    rw [(Hd.whole_yes h).2] at this
    exact this)
  clear h
  have E1 := fun (x y : Operand) (w : World) => run_neGuard_page w x y p p
  have E2 := fun (w : World) => run_neq_same w p hp
  clear hp hbd
  generalize Hd.readH p = h at *
  unfold pageV
  go_enter Tryz.func161, Tryz.ntmps161
  go_wp2_with (with_reducible refine wpList_load_page HS.out.page rfl (.tmp 1) rfl rfl ?_)
  refine (HR.out _).mono ?_
  rintro e w2 ⟨rfl, hb2⟩
  have S2 := Lib.hid (HS.out.call hb2)
  clear HS HR hb2
  go_wp2_with (first
    | ((with_reducible refine wpList_store_newhead headT (h := h) rfl (.tmp 4) (.tmp 8) rfl rfl ?_ ?_ ?_); (exact rfl); (exact rfl); intro W3 hH hB3 hz3; have S3 := Lib.hid (S2.out.call hB3); have H3 := Lib.hid hH; clear S2 hH hB3 hz3; generalize w2.heap.size = C at H3 ⊢)
    | ((with_reducible refine wpList_load_head headT H3.out rfl (.tmp 4) rfl rfl ?_)))
  refine (HE.out _).mono ?_
  rintro e w4 ⟨rfl, hb4⟩
  have S4 := Lib.hid (S3.out.call hb4)
  have H4 := Lib.hid (H3.out.below hb4 H3.out.lt)
  clear S3 H3 hb4
  go_wp2_with (first
    | ((with_reducible refine wpList_store_new rfl (.tmp 5) (.tmp 12) rfl rfl ?_ ?_ HP.out ?_); (exact rfl); (exact rfl); intro W5 hP hB5 hz5; have S5 := Lib.hid (S4.out.call hB5); have H5 := Lib.hid (H4.out.below hB5 H4.out.lt); have P5 := Lib.hid hP; clear S4 H4 hP hB5 hz5; generalize w4.heap.size = D at P5 ⊢)
    | ((with_reducible refine wpList_load_guarded P5.out (.tmp 5) rfl rfl (by kernel_rfl) ?_))
    | ((with_reducible refine wpList_load_guarded S5.out.page (.tmp 1) rfl rfl (by kernel_rfl) ?_))
    | ((with_reducible refine wpList_load_head headT H5.out rfl (.tmp 4) rfl rfl ?_))
    | ((with_reducible refine wpList_store_head headT (h := h) S5.out.res rfl (.tmp 2) (.tmp 22) rfl rfl ?_ ?_); (exact rfl)))
  exact bodyPost_ret (results_head2 headT _ 2 3 rfl _ (S5.out.res.put _) rfl rfl) rfl ⟨rfl, below_setCells _ (by omega) _ _ _ S5.out.below⟩
theorem decode_bad (p : List UInt8) (w : World) (hp : p.length = 64) (h : rightB (Hd.readH p) = false) :
    Calls Tryz.prog 161 #[pageV p] w fun e w' => e = .returned (.tuple #[headV Hd.zero, .bool false]) ∧ Below w.heap.size w w' := by
  have HP := Lib.hid hp
  have hbd := Hd.read_bd p hp
  have HR := Lib.hid (fun (w : World) => hread_any p w hp)
  have HS := Lib.hid (rdS_box w p (Hd.readH p) hp)
  have HE := Lib.hid (fun (w : World) => encode_no (Hd.readH p) w h)
  clear h

  clear hp hbd
  generalize Hd.readH p = h at *
  unfold pageV
  go_enter Tryz.func161, Tryz.ntmps161
  go_wp2_with (with_reducible refine wpList_load_page HS.out.page rfl (.tmp 1) rfl rfl ?_)
  refine (HR.out _).mono ?_
  rintro e w2 ⟨rfl, hb2⟩
  have S2 := Lib.hid (HS.out.call hb2)
  clear HS HR hb2
  go_wp2_with (first
    | ((with_reducible refine wpList_store_newhead headT (h := h) rfl (.tmp 4) (.tmp 8) rfl rfl ?_ ?_ ?_); (exact rfl); (exact rfl); intro W3 hH hB3 hz3; have S3 := Lib.hid (S2.out.call hB3); have H3 := Lib.hid hH; clear S2 hH hB3 hz3; generalize w2.heap.size = C at H3 ⊢)
    | ((with_reducible refine wpList_load_head headT H3.out rfl (.tmp 4) rfl rfl ?_)))
  refine (HE.out _).mono ?_
  rintro e w4 ⟨rfl, hb4⟩
  have S4 := Lib.hid (S3.out.call hb4)
  have H4 := Lib.hid (H3.out.below hb4 H3.out.lt)
  clear S3 H3 hb4
  go_wp2_with (first
    | ((with_reducible refine wpList_store_new rfl (.tmp 5) (.tmp 12) rfl rfl ?_ ?_ zeros_length ?_); (exact rfl); (exact rfl); intro W5 hP hB5 hz5; have S5 := Lib.hid (S4.out.call hB5); have H5 := Lib.hid (H4.out.below hB5 H4.out.lt); have P5 := Lib.hid hP; clear S4 H4 hP hB5 hz5; generalize w4.heap.size = D at P5 ⊢)
    | ((with_reducible refine wpList_load_head headT H5.out rfl (.tmp 4) rfl rfl ?_))
    | ((with_reducible refine wpList_store_head headT (h := Hd.zero) S5.out.res rfl (.tmp 2) (.tmp 21) rfl rfl ?_ ?_); (exact rfl)))
  exact bodyPost_ret (results_head2 headT _ 2 3 rfl _ (S5.out.res.put _) rfl rfl) rfl ⟨rfl, below_setCells _ (by omega) _ _ _ S5.out.below⟩
theorem decode_torn (p : List UInt8) (w : World) (hp : p.length = 64) (h : rightB (Hd.readH p) = true) (hne : pageH (Hd.readH p) ≠ p) :
    Calls Tryz.prog 161 #[pageV p] w fun e w' => e = .returned (.tuple #[headV Hd.zero, .bool false]) ∧ Below w.heap.size w w' := by
  have HP := Lib.hid hp
  have hbd := Hd.read_bd p hp
  have HR := Lib.hid (fun (w : World) => hread_any p w hp)
  have HS := Lib.hid (rdS_box w p (Hd.readH p) hp)
  have HE := Lib.hid (fun (w : World) => encode_yes (Hd.readH p) w h hbd.2.2.2.2.1 hbd.2.2.2.2.2)
  have HQ := Lib.hid (Hd.pageH_length (Hd.readH p))
  clear h
  have E1 := fun (x y : Operand) (w : World) => run_neGuard_page w x y (pageH (Hd.readH p)) p
  have E2 := fun (w : World) => run_neq_not w (pageH (Hd.readH p)) p HQ.out hp hne
  clear hne
  clear hp hbd
  generalize Hd.readH p = h at *
  unfold pageV
  go_enter Tryz.func161, Tryz.ntmps161
  go_wp2_with (with_reducible refine wpList_load_page HS.out.page rfl (.tmp 1) rfl rfl ?_)
  refine (HR.out _).mono ?_
  rintro e w2 ⟨rfl, hb2⟩
  have S2 := Lib.hid (HS.out.call hb2)
  clear HS HR hb2
  go_wp2_with (first
    | ((with_reducible refine wpList_store_newhead headT (h := h) rfl (.tmp 4) (.tmp 8) rfl rfl ?_ ?_ ?_); (exact rfl); (exact rfl); intro W3 hH hB3 hz3; have S3 := Lib.hid (S2.out.call hB3); have H3 := Lib.hid hH; clear S2 hH hB3 hz3; generalize w2.heap.size = C at H3 ⊢)
    | ((with_reducible refine wpList_load_head headT H3.out rfl (.tmp 4) rfl rfl ?_)))
  refine (HE.out _).mono ?_
  rintro e w4 ⟨rfl, hb4⟩
  have S4 := Lib.hid (S3.out.call hb4)
  have H4 := Lib.hid (H3.out.below hb4 H3.out.lt)
  clear S3 H3 hb4
  go_wp2_with (first
    | ((with_reducible refine wpList_store_new rfl (.tmp 5) (.tmp 12) rfl rfl ?_ ?_ HQ.out ?_); (exact rfl); (exact rfl); intro W5 hP hB5 hz5; have S5 := Lib.hid (S4.out.call hB5); have H5 := Lib.hid (H4.out.below hB5 H4.out.lt); have P5 := Lib.hid hP; clear S4 H4 hP hB5 hz5; generalize w4.heap.size = D at P5 ⊢)
    | ((with_reducible refine wpList_load_guarded P5.out (.tmp 5) rfl rfl (by kernel_rfl) ?_))
    | ((with_reducible refine wpList_load_guarded S5.out.page (.tmp 1) rfl rfl (by kernel_rfl) ?_))
    | ((with_reducible refine wpList_load_head headT H5.out rfl (.tmp 4) rfl rfl ?_))
    | ((with_reducible refine wpList_store_head headT (h := Hd.zero) S5.out.res rfl (.tmp 2) (.tmp 21) rfl rfl ?_ ?_); (exact rfl)))
  exact bodyPost_ret (results_head2 headT _ 2 3 rfl _ (S5.out.res.put _) rfl rfl) rfl ⟨rfl, below_setCells _ (by omega) _ _ _ S5.out.below⟩
theorem decode_no (p : List UInt8) (w : World) (hp : p.length = 64) (h : Hd.wholeB p = false) :
    Calls Tryz.prog 161 #[pageV p] w fun e w' => e = .returned (.tuple #[headV Hd.zero, .bool false]) ∧ Below w.heap.size w w' := by
  cases hr : rightB (Hd.readH p) with
  | false => exact decode_bad p w hp hr
  | true =>
    refine decode_torn p w hp hr (fun e => ?_)
    unfold Hd.wholeB at h
    rw [hr, e] at h
    simp at h
theorem decode_any (p : List UInt8) (w : World) (hp : p.length = 64) :
    Calls Tryz.prog 161 #[pageV p] w fun e w' => e = .returned (.tuple #[headV (Hd.decH p), .bool (Hd.wholeB p)]) ∧ Below w.heap.size w w' := by
  unfold Hd.decH
  cases h : Hd.wholeB p with
  | true => exact decode_yes p w hp h
  | false => exact decode_no p w hp h
end

section
open Go.ChangeShapes Go.WideShapes Go.ChangeAt Go.RowKit
open Dk (zeros zeros_length)
theorem list_of {α : Type} (P : Nat → α → Prop) : ∀ (n : Nat), (∀ i, i < n → ∃ a, P i a) → ∃ l : List α, l.length = n ∧ ∀ i, i < n → ∃ a, l[i]? = some a ∧ P i a
  | 0, _ => ⟨[], rfl, fun i hi => by omega⟩
  | n + 1, h => by
    obtain ⟨l, hl, hp⟩ := list_of P n (fun i hi => h i (by omega))
    obtain ⟨a, ha⟩ := h n (by omega)
    refine ⟨l ++ [a], by simp [hl], fun i hi => ?_⟩
    rcases Nat.lt_or_ge i n with hlt | hge
    · obtain ⟨x, hx, hpx⟩ := hp i hlt
      exact ⟨x, by rw [List.getElem?_append_left (by omega)]; exact hx, hpx⟩
    · obtain rfl : i = n := by omega
      exact ⟨a, by rw [List.getElem?_append_right (by omega), hl, Nat.sub_self]; rfl, ha⟩
structure PageRow (w : World) (A : Option Addr) (n : Nat) (ps : List (List UInt8)) : Prop where
  len : ps.length = n
  small : n ≤ maxLen
  size : ∀ p ∈ ps, p.length = 64
  cells : 0 < n → ∃ b off, A = some ⟨b, off, none⟩ ∧ b < w.heap.size ∧ ∀ i p, ps[i]? = some p → w.rangeAt b (off + i * 64) (byteVals p)
theorem PageRow.step {w w' : World} {A : Option Addr} {n : Nat} {ps : List (List UInt8)} (h : PageRow w A n ps) (hb : Below w.heap.size w w') : PageRow w' A n ps where
  len := h.len
  small := h.small
  size := h.size
  cells := fun hn => by
    obtain ⟨b, off, rfl, hlt, hc⟩ := h.cells hn
    exact ⟨b, off, rfl, Nat.lt_of_lt_of_le hlt hb.size, fun i p hi j v hv => (hb.cell (p := ⟨b, off + i * 64 + j, none⟩) hlt).trans (hc i p hi j v hv)⟩
structure ByteRow (w : World) (A : Option Addr) (n c : Nat) (bs : List UInt8) : Prop where
  len : bs.length = n
  room : n ≤ c
  small : n ≤ maxLen
  cells : 0 < n → ∃ b off, A = some ⟨b, off, none⟩ ∧ b < w.heap.size ∧ ∀ j, j < n → w.cell? ⟨b, off + j, none⟩ = some (.int .u8 ((bs.getD j 0).toNat : Int))
theorem ByteRow.keep {w W : World} {A : Option Addr} {n c : Nat} {bs : List UInt8} {L : List Nat} (h : ByteRow w A n c bs) (hn : n ≤ 1000) (hb : Below w.heap.size w W) (hL : ∀ k ∈ L, w.heap.size ≤ k) : KeepAt W A c bs L where
  small := by rw [h.len]; exact hn
  room := by rw [h.len]; exact h.room
  cells := fun h0 => by
    obtain ⟨b, off, e, hlt, hc⟩ := h.cells (by rw [h.len] at h0; exact h0)
    exact ⟨b, off, e, Nat.lt_of_lt_of_le hlt hb.size, fun q => by have := hL _ q; omega, fun j hj => (hb.cell (p := ⟨b, off + j, none⟩) hlt).trans (hc j (by rw [h.len] at hj; exact hj))⟩
theorem bytes_cells {H : Type} {enc : TypeId × Value → H} {W : World} {fuel : Nat} {cs : List Value} {x : DataW H × List MemPlace} (ht : DataW.trod enc Tryz.prog W 0 (fun _ => true) true fuel 48 cs = some x) :
    ∃ A n c bs, cs = [.slice A n c] ∧ ByteRow W A n c bs := by
  rcases Go.Deep.open_slice Tryz.underlying48 ht with ⟨hcs, _⟩ | ⟨a, len, cap, m, k, D, Pl, hcs, _, hl, hm, hmm, _, hi⟩
  · exact ⟨none, 0, 0, [], hcs, rfl, Nat.le_refl _, by unfold maxLen; omega, fun h => by omega⟩
  · simp only [if_true] at hmm
    have each : ∀ i, i < len → ∃ q : UInt8, W.cell? (a.add i) = some (.int .u8 (q.toNat : Int)) := by
      intro i hin
      obtain ⟨cs', hc, ht'⟩ := hi i (by omega)
      rw [cells8, Nat.mul_one] at hc
      obtain ⟨v, hv, _, hw⟩ := DataW.trod_int Tryz.underlying5 ht'
      have hb := bounds_u8 hw
      obtain ⟨_, _, hat⟩ := World.cells?_some hc
      have h0 := hat 0 (by omega)
      rw [hv] at h0
      refine ⟨UInt8.ofNat v.toNat, ?_⟩
      have e0 : (a.add i).add 0 = a.add i := by unfold Addr.add; cases a.spot <;> simp
      rw [e0] at h0
      rw [h0, UInt8.toNat_ofNat']
      show some (Value.int .u8 v) = _
      congr 2
      omega
    obtain ⟨bs, hbl, hbs⟩ := list_of _ len each
    refine ⟨some a, len, cap, bs, hcs, hbl, hl, by omega, fun h0 => ?_⟩
    have hget : ∀ i, i < len → W.cell? (a.add i) = some (.int .u8 ((bs.getD i 0).toNat : Int)) := fun i hin => by
      obtain ⟨q, hq, h1⟩ := hbs i hin
      rw [List.getD_eq_getElem?_getD, hq]; exact h1
    obtain ⟨b, off, spot⟩ := a
    have hcell0 := hget 0 h0
    have hspot : spot = none := by simpa [Addr.add] using World.cell?_spot hcell0
    subst hspot
    refine ⟨b, off, rfl, ?_, fun j hj => ?_⟩
    · rw [Addr.add_mid] at hcell0
      exact World.block_lt_of_cell? W _ hcell0
    · have := hget j hj
      rwa [Addr.add_mid] at this
theorem open_bytes {H : Type} {enc : TypeId × Value → H} {W : World} {base : Nat} {v : Value} {d : DataW H} {p : List MemPlace} (hv : Value.okWide Tryz.prog W .any base 48 v)
    (h : DataW.Trod enc Tryz.prog W 0 (fun _ => true) true 48 v d p) : ∃ A n c bs, v = .slice A n c ∧ ByteRow W A n c bs := by
  obtain ⟨A, n, c, rfl⟩ := okWide_slice Tryz.underlying48 hv
  obtain ⟨fuel, hf⟩ := h
  obtain ⟨A', n', c', bs, e, hb⟩ := bytes_cells hf
  simp [Value.cells] at e
  obtain ⟨rfl, rfl, rfl⟩ := e
  exact ⟨_, _, _, bs, rfl, hb⟩
end

section
open Go.RowKit
open Dk (zeros zeros_length)
open Hd (Head rightB pageH)
theorem wpList_load_at {ops : Array Oper} {rest : List Oper} {op : Oper} {a : Act} {Q : Exit → Act → World → Prop} {w : World} {b o : Nat} {p : List UInt8} (hr : w.rangeAt b o (byteVals p)) (hp : p.length = 64) (hgd : op.guard = none) (x : Operand) (ho : op.op = .load 68 x)
    (hx : a.eval x = .pointer (some ⟨b, o, none⟩)) (h : wpList Tryz.prog ops Q rest (a.put op.dst (pageV p)) w) : wpList Tryz.prog ops Q (op :: rest) a w :=
  wpList_load_mid hgd 68 x ho b o hx (byteVals p) _ hr Tryz.underlying68 rfl (by rw [page_info, byteVals_length, hp]) h
theorem take_more {α : Type} (l : List α) (k : Nat) (a : α) (h : l[k]? = some a) : l.take (k + 1) = l.take k ++ [a] := by
  obtain ⟨hk, he⟩ := List.getElem?_eq_some_iff.1 h
  rw [List.take_succ_eq_append_getElem hk, he]
def NxR (w0 : World) (A : Option Addr) (n : Nat) (ps : List (List UInt8)) (W : World) : Prop := PageRow W A n ps ∧ Below w0.heap.size w0 W
theorem NxR.call {w0 : World} {A : Option Addr} {n : Nat} {ps : List (List UInt8)} {W W' : World} (k : NxR w0 A n ps W) (hb : Below W.heap.size W W') : NxR w0 A n ps W' := ⟨k.1.step hb, k.2.trans (hb.mono k.2.size)⟩
theorem PageRow.drew {w : World} {A : Option Addr} {n : Nat} {ps : List (List UInt8)} (h : PageRow w A n ps) : PageRow w.drew A n ps where
  len := h.len
  small := h.small
  size := h.size
  cells := fun hn => by
    obtain ⟨b, off, e, hlt, hc⟩ := h.cells hn
    exact ⟨b, off, e, hlt, fun i p hi => (World.rangeAt_drew ..).2 (hc i p hi)⟩
theorem NxR.drew {w0 : World} {A : Option Addr} {n : Nat} {ps : List (List UInt8)} {W : World} (k : NxR w0 A n ps W) : NxR w0 A n ps W.drew := ⟨k.1.drew, k.2.drew⟩
def NxS (w0 : World) (A : Option Addr) (n : Nat) (ps : List (List UInt8)) (B : Nat) (p : List UInt8) (W : World) : Prop := NxR w0 A n ps W ∧ PageAt W B p
theorem NxS.call {w0 : World} {A : Option Addr} {n : Nat} {ps : List (List UInt8)} {B : Nat} {p : List UInt8} {W W' : World} (k : NxS w0 A n ps B p W) (hb : Below W.heap.size W W') : NxS w0 A n ps B p W' := ⟨NxR.call k.1 hb, k.2.below hb k.2.lt⟩
theorem next_any (A : Option Addr) (n c : Nat) (ps : List (List UInt8)) (w : World) (hrow : PageRow w A n ps) :
    Calls Tryz.prog 162 #[.slice A n c] w fun e w' => e = .returned (.int .i64 (Hd.nextN ps)) ∧ Below w.heap.size w w' := by
  have hn := hrow.small
  unfold maxLen at hn
  have HR : Hid (NxR w A n ps w) := Lib.hid ⟨hrow, Below.refl _ _⟩
  have HL := Lib.hid hrow.len
  have HZ := Lib.hid hrow.size
  clear hrow
  go_enter Tryz.func162, Tryz.ntmps162
  go_wp2_with fail
  go_loopw [3, 8] (fun x i wr => ∃ k : Nat, k ≤ n ∧ i = .int .i64 k ∧ x = .int .i64 (Hd.nextN (ps.take k)) ∧ NxR w A n ps wr) (fun _ i _ => n - (intOf i).toNat)
  case atStart => exact ⟨0, Nat.zero_le _, rfl, rfl, HR.out⟩
  case round =>
    obtain ⟨k, hk, rfl, rfl, hnx⟩ := hrel
    have HX := Lib.hid hnx
    clear hnx HR
    by_cases hlt : k < n
    · obtain ⟨b, off, rfl, hb, hc⟩ := HX.out.1.cells (by omega)
      obtain ⟨p, hp⟩ : ∃ p, ps[k]? = some p := ⟨_, List.getElem?_eq_getElem (by rw [HL.out]; exact hlt)⟩
      have HP := Lib.hid (hc k p hp)
      have HPL := Lib.hid (HZ.out p (List.mem_of_getElem? hp))
      have HT := Lib.hid (take_more ps k p hp)
      have G0 := Lib.hid (fun (w : World) => get_any p 0 4 w HPL.out (by omega) (by omega))
      have G6 := Lib.hid (fun (w : World) => get_any p 60 4 w HPL.out (by omega) (by omega))
      have hbd := Hd.get_bd p HPL.out
      have HU : Hid (Hd.nextN (ps.take (k + 1)) = max (max (Hd.nextN (ps.take k)) (Pg.getN p 0 4 + 1)) (Pg.getN p 60 4 + 1)) := Lib.hid (by rw [HT.out, Hd.nextN_snoc]; rfl)
      have hx0 := Hd.nextN_nonneg (ps.take k)
      have hx1 := Hd.nextN_top (ps.take k) (fun q hq => HZ.out q (List.mem_of_mem_take hq))
      clear hc hp hb HT
      generalize Hd.nextN (ps.take k) = x at HU hx0 hx1 ⊢
      generalize Pg.getN p 0 4 = g0 at G0 HU hbd
      generalize Pg.getN p 60 4 = g6 at G6 HU hbd
      obtain ⟨b1, b2, b3, b4⟩ := hbd
      have w1 : IntKind.i64.wrap (g0 + 1) = g0 + 1 := IntWalk.i64_in _ (by omega)
      have w2 : IntKind.i64.wrap (g6 + 1) = g6 + 1 := IntWalk.i64_in _ (by omega)
      have hk0 : (0 : Int) ≤ (k : Int) := by omega
      have hk1 : (k : Int) < (n : Int) := by omega
      go_wp2_with (first
        | ((with_reducible refine wpList_load_at HP.out HPL.out rfl (.tmp 10) rfl ?_ ?_); (exact rfl))
        | ((with_reducible refine wpList_store_new rfl (.tmp 5) (.tmp 11) rfl rfl ?_ ?_ HPL.out ?_); (exact rfl); (exact rfl); intro W2 hP hB2 hz2; have S2 : Hid (NxS w (some ⟨b, off, none⟩) n ps wr.heap.size p W2) := Lib.hid ⟨NxR.call HX.out hB2, hP⟩; clear HX hP hB2 hz2; generalize wr.heap.size = B at S2 ⊢))
      obtain ⟨y, hy⟩ : ∃ y, max (max x (g0 + 1)) (g6 + 1) = y := ⟨_, rfl⟩
      have HY := Lib.hid hy
      clear hy
      refine wp_region_lin (fun (_ : Unit) => NxS w (some ⟨b, off, none⟩) n ps B p) (fun _ => false) (fun i => [.int .i64 x, pageV p, .int .i64 g0, .int .i64 (g0 + 1), pageV p, .int .i64 g6, .int .i64 (g6 + 1), .int .i64 y, .int .i64 y].getD i undef) (()) (by kernel_rfl) (by kernel_rfl) (⟨S2.out.1.drew, S2.out.2.drew⟩) ?_
      refine lin_step (i := 0) (d := some 12) (v := .int .i64 x) rfl rfl (by kernel_rfl) (by kernel_rfl) rfl rfl (ord_value (by kernel_rfl) ?_) ?_
      · intro _ _ _; go_simp
      (try simp only [Act.put, puA, puB, puC])
      refine lin_step (i := 1) (d := some 13) (v := pageV p) rfl rfl (by kernel_rfl) (by kernel_rfl) rfl rfl (ord_page (by kernel_rfl) (.tmp 5) rfl rfl (fun _ _ hS => hS.2)) ?_
      (try simp only [Act.put, puA, puB, puC])
      refine lin_step (i := 2) (d := some 14) (v := .int .i64 g0) rfl rfl (by kernel_rfl) (by kernel_rfl) rfl rfl (ord_call (f := 135) (args := #[pageV p, .int .i64 0, .int .i64 4]) (by kernel_rfl) ?_ (fun _ _ hS => (G0.out _).mono fun _ _ ⟨he, hb⟩ => ⟨he, NxS.call hS hb⟩)) ?_
      · intro _; go_simp
      (try simp only [Act.put, puA, puB, puC])
      refine lin_step (i := 3) (d := some 15) (v := .int .i64 (g0 + 1)) rfl rfl (by kernel_rfl) (by kernel_rfl) rfl rfl (ord_value (by kernel_rfl) ?_) ?_
      · intro _ _ _; go_simp
      (try simp only [Act.put, puA, puB, puC])
      refine lin_step (i := 4) (d := some 16) (v := pageV p) rfl rfl (by kernel_rfl) (by kernel_rfl) rfl rfl (ord_page (by kernel_rfl) (.tmp 5) rfl rfl (fun _ _ hS => hS.2)) ?_
      (try simp only [Act.put, puA, puB, puC])
      refine lin_step (i := 5) (d := some 17) (v := .int .i64 g6) rfl rfl (by kernel_rfl) (by kernel_rfl) rfl rfl (ord_call (f := 135) (args := #[pageV p, .int .i64 60, .int .i64 4]) (by kernel_rfl) ?_ (fun _ _ hS => (G6.out _).mono fun _ _ ⟨he, hb⟩ => ⟨he, NxS.call hS hb⟩)) ?_
      · intro _; go_simp
      (try simp only [Act.put, puA, puB, puC])
      refine lin_step (i := 6) (d := some 18) (v := .int .i64 (g6 + 1)) rfl rfl (by kernel_rfl) (by kernel_rfl) rfl rfl (ord_value (by kernel_rfl) ?_) ?_
      · intro _ _ _; go_simp
      (try simp only [Act.put, puA, puB, puC])
      refine lin_step (i := 7) (d := some 19) (v := .int .i64 y) rfl rfl (by kernel_rfl) (by kernel_rfl) rfl rfl (ord_value (by kernel_rfl) ?_) ?_
      · intro _ _ _; go_simp; (rw [← HY.out]; (repeat' split) <;> omega)
      (try simp only [Act.put, puA, puB, puC])
      refine lin_step (i := 8) (d := some 3) (v := .int .i64 y) rfl rfl (by kernel_rfl) (by kernel_rfl) rfl rfl (ord_value (by kernel_rfl) ?_) ?_
      · intro _ _ _; go_simp
      (try simp only [Act.put, puA, puB, puC])
      refine lin_done (by kernel_rfl) ?_
      intro W3 hS
      have S3 := Lib.hid hS
      clear hS S2 w1 w2
      go_wp2_with fail
      go_roundw
      case rel => exact ⟨k + 1, by omega, by go_num, by rw [HU.out, HY.out], S3.out.1⟩
      case measure => simp [intOf]; omega
    · have HK : Hid (ps.take k = ps) := Lib.hid (List.take_of_length_le (by rw [HL.out]; omega))
      go_wp2_with fail
      go_ret
      exact ⟨ret_int (by rw [HK.out]), HX.out.2⟩
section
variable {ops : Array Oper} {σ : Type} {S : σ → World → Prop}
end
end

namespace Mt
def step (p : Int × Int) (c : UInt8) : Int × Int := ((p.1 + (c.toNat : Int)) % 65535, (p.2 + (p.1 + (c.toNat : Int)) % 65535) % 65535)
def run (p : Int × Int) (l : List UInt8) : Int × Int := l.foldl step p
def joinN (p : Int × Int) : Int := p.2 * 65536 + p.1
def splitN (s : Int) : Int × Int := (s % 65536 % 65535, s / 65536 % 65535)
def Fit (p : Int × Int) : Prop := 0 ≤ p.1 ∧ p.1 < 65535 ∧ 0 ≤ p.2 ∧ p.2 < 65535
theorem fit_step (p : Int × Int) (c : UInt8) : Fit (step p c) := by
  unfold Fit step
  exact ⟨Int.emod_nonneg _ (by omega), Int.emod_lt_of_pos _ (by omega), Int.emod_nonneg _ (by omega), Int.emod_lt_of_pos _ (by omega)⟩
theorem fit_run (p : Int × Int) (l : List UInt8) (h : Fit p) : Fit (run p l) := by
  induction l generalizing p with
  | nil => exact h
  | cons c l ih => exact ih _ (fit_step p c)
theorem fit_zero : Fit (0, 0) := by unfold Fit; simp
theorem run_append (p : Int × Int) (l r : List UInt8) : run p (l ++ r) = run (run p l) r := by
  unfold run; rw [List.foldl_append]
theorem run_snoc (p : Int × Int) (l : List UInt8) (c : UInt8) : run p (l ++ [c]) = step (run p l) c := by
  rw [run_append]; rfl
theorem join_bd (p : Int × Int) (h : Fit p) : 0 ≤ joinN p ∧ joinN p < 4294967296 := by
  unfold Fit at h; unfold joinN; omega
end Mt

section
open Go.RowKit
theorem ret_int2 {k : IntKind} {a b c d : Int} (h : a = b) (h' : c = d) : Ending.returned (.tuple #[.int k a, .int k c]) = .returned (.tuple #[.int k b, .int k d]) := by rw [h, h']
theorem and_mask (s : Int) (h0 : 0 ≤ s) (h1 : s < 4294967296) : (bits BinOp.and IntKind.u32 s 65535).tmod 65535 = s % 65536 % 65535 := by
  rw [u32_and s 65535 h0 h1 (by omega) (by omega)]
  have e : s.toNat &&& (65535 : Int).toNat = s.toNat % 65536 := Nat.and_two_pow_sub_one_eq_mod s.toNat 16
  rw [e, Int.tmod_eq_emod_of_nonneg (by omega)]
  omega
theorem or_join (a b : Int) (h0 : 0 ≤ a) (h1 : a < 65535) (h2 : 0 ≤ b) (h3 : b < 65535) : bits BinOp.or IntKind.u32 (b * 65536) a = Mt.joinN (a, b) := by
  rw [u32_or (b * 65536) a (by omega) (by omega) (by omega) (by omega)]
  have e : (b * 65536).toNat ||| a.toNat = (b * 65536).toNat + a.toNat := nat_join 16 _ _ (by omega) (by omega)
  rw [e]
  unfold Mt.joinN
  simp only
  omega
theorem split_any (s : Int) (w : World) (h0 : 0 ≤ s) (h1 : s < 4294967296) :
    Calls Tryz.prog 167 #[.int .u32 s] w fun e w' => e = .returned (.tuple #[.int .u32 (Mt.splitN s).1, .int .u32 (Mt.splitN s).2]) ∧ w = w' := by
  go_enter Tryz.func167, Tryz.ntmps167
  go_wp2
  go_ret2
  exact ⟨ret_int2 (and_mask s h0 h1) rfl, rfl⟩
theorem join_any (a b : Int) (w : World) (h0 : 0 ≤ a) (h1 : a < 65535) (h2 : 0 ≤ b) (h3 : b < 65535) :
    Calls Tryz.prog 169 #[.int .u32 a, .int .u32 b] w fun e w' => e = .returned (.int .u32 (Mt.joinN (a, b))) ∧ w = w' := by
  go_enter Tryz.func169, Tryz.ntmps169
  go_wp2
  go_ret
  exact ⟨ret_int (or_join a b h0 h1 h2 h3), rfl⟩
theorem take_snoc (s : ByteArray) (k : Nat) (h : k < s.size) : s.data.toList.take (k + 1) = s.data.toList.take k ++ [s[k]] := by
  rw [List.take_succ_eq_append_getElem (by simpa using h)]; rfl
theorem add_any (a b : Int) (s : ByteArray) (w : World) (hf : Mt.Fit (a, b)) (hs : s.size ≤ maxLen) :
    Calls Tryz.prog 168 #[.int .u32 a, .int .u32 b, .string s] w fun e w' => e = .returned (.tuple #[.int .u32 (Mt.run (a, b) s.data.toList).1, .int .u32 (Mt.run (a, b) s.data.toList).2]) ∧ w = w' := by
  unfold maxLen at hs
  go_enter Tryz.func168, Tryz.ntmps168
  go_wp2
  go_loop [0, 1, 11] (fun x y i => ∃ k : Nat, k ≤ s.size ∧ i = .int .i64 k ∧ x = .int .u32 (Mt.run (a, b) (s.data.toList.take k)).1 ∧ y = .int .u32 (Mt.run (a, b) (s.data.toList.take k)).2) (fun _ _ i => s.size - (intOf i).toNat)
  case atStart => exact ⟨0, Nat.zero_le _, rfl, rfl, rfl⟩
  case round =>
    obtain ⟨k, hk, rfl, rfl, rfl⟩ := hrel
    have hr := Mt.fit_run (a, b) (s.data.toList.take k) hf
    by_cases hlt : k < s.size
    · have HS : Hid (Mt.run (a, b) (s.data.toList.take (k + 1)) = Mt.step (Mt.run (a, b) (s.data.toList.take k)) s[k]) := Lib.hid (by rw [take_snoc s k hlt, Mt.run_snoc])
      obtain ⟨r1, r2, r3, r4⟩ := hr
      have hc := s[k].toNat_lt
      go_wp2
      go_round
      case rel => exact ⟨k + 1, by omega, by go_num, by rw [HS.out]; rfl, by rw [HS.out]; rfl⟩
      case measure => simp [intOf]; omega
    · have HK : Hid (s.data.toList.take k = s.data.toList) := Lib.hid (List.take_of_length_le (by simp; omega))
      go_wp2
      go_ret2
      exact ⟨ret_int2 (by rw [HK.out]) (by rw [HK.out]), rfl⟩
end
end Go.Proofs.YtncmihikpcdgoaaGreat
