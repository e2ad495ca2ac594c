/- Texts of the proof: Dflush, Dflushw, Dcrash, Dheld, Dcrashw, Dopen, Hdec, Jrows, Hnext, Math, Leaf, Jmath. -/
import Derived.Test.YtncmihikpcdgoaaGreatKab
import Derived.Deep.RegionHeld3
import Derived.ProofKit
import Derived.OpenShut
import Derived.ShutString
import Derived.ChangeOld
import Derived.Lib.SmallJoins
import Derived.Deep.Slices
import Derived.IntWalk
import Derived.Test.YtncmihikpcdgoaaGreatKaa
import Derived.WalkKit
import Derived.WalkSpells
import Derived.WalkLawsBesides
import Derived.Laws.BitsAllLaws
import Derived.Lib.Hide
namespace Go.Proofs.YtncmihikpcdgoaaGreat
open Go.RowKit Go.Maps
open Dk (zeros zeros_length)
/-- what lasts while some of the cache is still to come -/
def mixL (s : Dk.St) (left : Nat → Bool) : List (List UInt8) := (List.range s.last.length).map fun i => if left i then Dk.lastAt s i else Dk.nowAt s i
set_option maxRecDepth 100000 in
theorem mixL_length (s : Dk.St) (left : Nat → Bool) : (mixL s left).length = s.last.length := by unfold mixL; simp
set_option maxRecDepth 100000 in
theorem mixL_at (s : Dk.St) (left : Nat → Bool) (i : Nat) (hi : i < s.last.length) : (mixL s left)[i]? = some (if left i then Dk.lastAt s i else Dk.nowAt s i) := by
  unfold mixL
  rw [List.getElem?_map, List.getElem?_range hi]; rfl
set_option maxRecDepth 100000 in
theorem mixL_start (s : Dk.St) (left : Nat → Bool) (h : ∀ i, i < s.last.length → left i = false → Dk.cacheAt s i = none) : mixL s left = s.last := by
  apply List.ext_getElem?
  intro i
  by_cases hi : i < s.last.length
  · rw [mixL_at s left i hi]
    have hl : s.last[i]? = some (Dk.lastAt s i) := by unfold Dk.lastAt; rw [List.getD_eq_getElem?_getD, List.getElem?_eq_getElem hi]; rfl
    rw [hl]
    cases e : left i with
    | true => rfl
    | false =>
      have := h i hi e
      simp [Dk.nowAt, this]
  · rw [List.getElem?_eq_none (by rw [mixL_length]; omega), List.getElem?_eq_none (by omega)]
set_option maxRecDepth 100000 in
theorem mixL_end (s : Dk.St) (left : Nat → Bool) (h : ∀ i, left i = false) : mixL s left = (Dk.flushed s).last := by
  unfold mixL Dk.flushed
  apply List.map_congr_left
  intro i _
  rw [h i]; rfl
set_option maxRecDepth 100000 in
theorem mixL_step (s : Dk.St) (left left' : Nat → Bool) (i : Nat) (p : List UInt8) (hi : i < s.last.length) (hp : Dk.cacheAt s i = some p) (h1 : left' i = false) (h2 : ∀ j, j ≠ i → left' j = left j) : (mixL s left).set i p = mixL s left' := by
  apply List.ext_getElem?
  intro j
  rw [List.getElem?_set]
  by_cases e : i = j
  · subst e
    rw [if_pos rfl, if_pos (by rw [mixL_length]; exact hi), mixL_at s left' i hi, h1]
    simp [Dk.nowAt, hp]
  · rw [if_neg e]
    by_cases hj : j < s.last.length
    · rw [mixL_at s left j hj, mixL_at s left' j hj, h2 j (fun q => e q.symm)]
    · rw [List.getElem?_eq_none (by rw [mixL_length]; omega), List.getElem?_eq_none (by rw [mixL_length]; omega)]
set_option maxRecDepth 100000 in
theorem Only.newer {l : List Nat} {b : Nat} {a w w' : World} (h : Only l a w) (k : Only [b] w w') (hb : a.heap.size ≤ b) : Only l a w' :=
  ⟨k.os.trans h.os, k.tape.trans h.tape, k.output.trans h.output, Nat.le_trans h.size k.size, fun i hi hn => (k.block i (Nat.lt_of_lt_of_le hi h.size) (by simp; omega)).trans (h.block i hi hn)⟩
/-- the loop over the cache -/
structure FlushAt (w1 : World) (l m r : Nat) (s : Dk.St) (D : DataW (List UInt8)) (left : Lit → Bool) (cnt : Nat) (w : World) : Prop where
  rg : w.ranges Tryz.prog 3 pageR m r (Maps.size D) D left cnt
  rows : RowsAt w l (mixL s (fun i => left (.int .i64 (i : Int))))
  only : Only [l] w1 w
  sub : ∀ kl, left kl = true → Maps.has D kl = true
set_option maxRecDepth 100000 in
theorem invK : ∀ key kl, keyOf Tryz.prog 3 key = some kl → ∃ x, key = Value.int .i64 x := fun key kl h => by
  obtain ⟨x, rfl, _⟩ := Maps.keyOf_int_inv Tryz.underlying3 h
  exact ⟨x, rfl⟩
set_option maxRecDepth 100000 in
theorem invV : ∀ v (y : DataW (List UInt8) × List MemPlace), pageR v = some y → ∃ c, v = pageV c := fun v y h => by
  obtain ⟨p, _, rfl, _⟩ := pageR_inv h
  exact ⟨p, rfl⟩
set_option maxRecDepth 100000 in
/-- what has come: a page of the cache -/
theorem came {s : Dk.St} (hok : s.Ok) {D : DataW (List UInt8)} (hD : MapIs D s.cache) {x : Int} {c : List UInt8} {kl : Lit} {y : DataW (List UInt8) × List MemPlace} (hkey : keyOf Tryz.prog 3 (.int .i64 x) = some kl) (hl : Maps.has D kl = true) (hv : pageR (pageV c) = some y) (hat : ∀ zd, D.atKey kl zd = y.1) :
    ∃ i : Nat, x = (i : Int) ∧ kl = .int .i64 (i : Int) ∧ i < s.last.length ∧ Dk.cacheAt s i = some c ∧ c.length = 64 := by
  obtain ⟨x', ex, rfl, _⟩ := Maps.keyOf_int_inv Tryz.underlying3 hkey
  injection ex with _ ex
  subst ex
  rw [hD.has] at hl
  have h0 : 0 ≤ x ∧ (s.cache.getD x.toNat none).isSome = true := by simpa using hl
  obtain ⟨i, rfl⟩ := Int.eq_ofNat_of_zero_le h0.1
  rw [Int.toNat_natCast] at h0
  obtain ⟨p, hp⟩ := Option.isSome_iff_exists.1 h0.2
  obtain ⟨q, hq, e1, e2⟩ := pageR_inv hv
  have hcq := pageV_inj e1
  have := hD.held i p hp .nil
  rw [hat, e2] at this
  injection this with this
  refine ⟨i, rfl, rfl, ?_, ?_, by rw [hcq]; exact hq⟩
  · rw [List.getD_eq_getElem?_getD] at hp
    rw [← hok.same]
    by_cases hi : i < s.cache.length
    · exact hi
    · rw [List.getElem?_eq_none (by omega)] at hp; cases hp
  · unfold Dk.cacheAt; rw [hp, hcq, this]
set_option maxRecDepth 100000 in
theorem flush_loop_start {w1 w2 : World} {d l m r : Nat} {s : Dk.St} (h : DiskAt w1 d l m s) {D : DataW (List UInt8)} (hD : MapIs D s.cache) (hrg : w2.ranges Tryz.prog 3 pageR m r (Maps.size D) D (Maps.has D) (Maps.size D)) (hg : w1.grownBy w2 none) :
    FlushAt w1 l m r s D (Maps.has D) (Maps.size D) w2 where
  rg := hrg
  rows := by
    rw [mixL_start s _ (fun i hi e => by
      rw [hD.has] at e
      cases hc : Dk.cacheAt s i with
      | none => rfl
      | some p =>
        have : s.cache.getD i none = some p := hc
        rw [Int.toNat_natCast, this] at e
        simp at e)]
    exact h.rows.block (hg.block l h.llt (by simp))
  only := Only.grownNone hg
  sub := fun _ h => h
set_option maxRecDepth 100000 in
theorem flush_next {w1 w w' : World} {l m r : Nat} {s : Dk.St} {D : DataW (List UInt8)} {left : Lit → Bool} {cnt cnt' : Nat} {i : Nat} {p : List UInt8} (h : FlushAt w1 l m r s D left cnt w) (hr : w1.heap.size ≤ r) (hl : l < w1.heap.size) (_hm : m < w1.heap.size) (hlm : l ≠ m)
    (hrg : w'.ranges Tryz.prog 3 pageR m r (Maps.size D) D (fun z => left z && !z.sameKey (.int .i64 (i : Int))) cnt') (hg : w.grownBy w' (some r)) (hi : i < s.last.length) (hp : Dk.cacheAt s i = some p) (hpl : p.length = 64) {w2 : World} (hb : Below w'.heap.size w' w2) :
    RowsAt w2 l (mixL s (fun i => left (.int .i64 (i : Int)))) ∧ FlushAt w1 l m r s D (fun z => left z && !z.sameKey (.int .i64 (i : Int))) cnt' (w2.setCells l (i * 64) (byteVals p)) ∧ Only [l] w1 w2 := by
  have ho : Only [l] w1 w2 := (h.only.newer (Only.grown hg (by simp)) hr).trans (Only.below hb)
  have hlw : l < w'.heap.size := Nat.lt_of_lt_of_le (Nat.lt_of_lt_of_le hl h.only.size) hg.size
  have hrow : RowsAt w2 l (mixL s (fun i => left (.int .i64 (i : Int)))) :=
    (h.rows.block (hg.block l (Nat.lt_of_lt_of_le hl h.only.size) (fun e => by injection e with e; omega))).block (hb.block l hlw)
  refine ⟨hrow, ⟨?_, ?_, Only.setCells l (by simp) _ _ _ ho, fun kl e => h.sub kl (by simp at e; exact e.1)⟩, ho⟩
  · have h1 : w2.ranges Tryz.prog 3 pageR m r (Maps.size D) D (fun z => left z && !z.sameKey (.int .i64 (i : Int))) cnt' :=
      hrg.kept (row := none) ⟨hb.os, hb.tape, hb.output, hb.size, fun k hk _ => hb.block k hk⟩ (by simp) (by simp)
    have hrl : r ≠ l := by omega
    refine h1.kept (row := some l) ⟨?_, ?_, ?_, ?_, ?_⟩ (fun e => by injection e with e; exact hlm e.symm) (fun e => by injection e with e; exact hrl e)
    · exact (Only.setCells (a := w2) l (l := [l]) (by simp) (byteVals p) (i * 64) w2 (Only.refl _ _)).os
    · exact (Only.setCells (a := w2) l (l := [l]) (by simp) (byteVals p) (i * 64) w2 (Only.refl _ _)).tape
    · exact (Only.setCells (a := w2) l (l := [l]) (by simp) (byteVals p) (i * 64) w2 (Only.refl _ _)).output
    · exact (Only.setCells (a := w2) l (l := [l]) (by simp) (byteVals p) (i * 64) w2 (Only.refl _ _)).size
    · intro k hk hn
      exact heap_setCells_other l _ _ _ k (fun e => hn (by rw [e]))
  · have := hrow.put i (by rw [mixL_length]; exact hi) p hpl
    rw [mixL_step s _ (fun j => left (.int .i64 (j : Int)) && !(Lit.int .i64 (j : Int)).sameKey (.int .i64 (i : Int))) i p hi hp (by simp [Lit.sameKey]) (fun j hj => by
      have hne : (j : Int) ≠ (i : Int) := by omega
      simp [Lit.sameKey, hne])] at this
    exact this
set_option maxRecDepth 100000 in
theorem flush_end {w1 w w' : World} {d l m r : Nat} {s : Dk.St} (h1 : DiskAt w1 d l m s) {D : DataW (List UInt8)} {left : Lit → Bool} {cnt : Nat} (h : FlushAt w1 l m r s D left cnt w) (hleft : ∀ kl, left kl = false)
    (hm : MapAt w' m (List.replicate s.last.length none)) (ht : w.mapTurned w' m) : DiskAt w' d l m (Dk.flushed s) ∧ Only [l, m] w1 w' := by
  have hd : w'.heap[d]? = w1.heap[d]? := (ht.grown.block d (Nat.lt_of_lt_of_le h1.dlt h.only.size) (fun e => h1.dm (by injection e))).trans (h.only.block d h1.dlt (by simpa using h1.dl))
  have hrow : RowsAt w' l (Dk.flushed s).last := by
    rw [← mixL_end s (fun i => left (.int .i64 (i : Int))) (fun i => hleft _)]
    exact h.rows.block (ht.grown.block l (Nat.lt_of_lt_of_le h1.llt h.only.size) (fun e => h1.lm (by injection e)))
  have hlen : (Dk.flushed s).last.length = s.last.length := by unfold Dk.flushed; simp
  refine ⟨?_, (h.only.mono (by simp)).trans (Only.grown ht.grown (by simp))⟩
  exact { ok := Dk.flushed_ok h1.ok, dl := h1.dl, dm := h1.dm, lm := h1.lm
          c0 := (World.cell?_of_block (w := w1) (a := ⟨d, 0, none⟩) hd).trans h1.c0
          c1 := (World.cell?_of_block (w := w1) (a := ⟨d, 1, none⟩) hd).trans h1.c1
          c2 := (World.cell?_of_block (w := w1) (a := ⟨d, 2, none⟩) hd).trans h1.c2
          c3 := by rw [hlen]; exact (World.cell?_of_block (w := w1) (a := ⟨d, 3, none⟩) hd).trans h1.c3
          c4 := (World.cell?_of_block (w := w1) (a := ⟨d, 4, none⟩) hd).trans h1.c4
          f0 := (World.frozen?_of_block (w := w1) (a := ⟨d, 0, none⟩) hd).trans h1.f0
          f1 := (World.frozen?_of_block (w := w1) (a := ⟨d, 1, none⟩) hd).trans h1.f1
          f2 := (World.frozen?_of_block (w := w1) (a := ⟨d, 2, none⟩) hd).trans h1.f2
          rows := hrow, map := hm }
end Go.Proofs.YtncmihikpcdgoaaGreat

namespace Go.Proofs.YtncmihikpcdgoaaGreat
open Go.RowKit Go.Maps
open Dk (zeros zeros_length)
set_option maxRecDepth 100000 in
set_option maxHeartbeats 2000000 in
theorem flush_any {w : World} {d l m : Nat} {s : Dk.St} (h : DiskAt w d l m s) : Calls Tryz.prog 117 #[.pointer (some ⟨d, 0, none⟩)] w fun e w' =>
    e = .returned (.int .i64 (Dk.flushE s)) ∧ DiskAt w' d l m (Dk.flush s) ∧ Only [d, l, m] w w' := by
  have HD := Lib.hid h
  have HW := Lib.hid (down_any h)
  have HS := Lib.hid (spend_any h)
  cases hdn : s.down with
  | true =>
    have HE : Hid (Dk.flushE s = 5) := Lib.hid (by unfold Dk.flushE; rw [if_pos hdn])
    have HF : Hid (Dk.flush s = s) := Lib.hid (by unfold Dk.flush; rw [if_pos hdn])
    rw [HE.out, HF.out]
    rw [hdn] at HW
    clear h hdn
    go_enter Tryz.func117, Tryz.ntmps117
    go_wp2_with (go_at_call 60; refine HW.out.mono ?_; rintro e w' ⟨rfl, rfl⟩)
    go_ret
    exact ⟨rfl, HD.out, Only.refl _ _⟩
  | false =>
    rw [hdn] at HW
    have hnd : ¬ s.down = true := by rw [hdn]; simp
    have HE : Hid (Dk.flushE s = Dk.spendE s) := Lib.hid (by unfold Dk.flushE; rw [if_neg hnd])
    by_cases e0 : Dk.spendE s = 0
    · have HF : Hid (Dk.flush s = Dk.flushed (Dk.spend s)) := Lib.hid (by unfold Dk.flush; rw [if_neg hnd, if_pos e0])
      rw [HE.out, HF.out, e0]
      rw [e0] at HS
      clear h hdn hnd e0 HE HF
      generalize Dk.spend s = s1 at HS ⊢
      go_enter Tryz.func117, Tryz.ntmps117
      go_wp2_with fail
      refine HW.out.mono ?_
      rintro e w' ⟨rfl, rfl⟩
      go_wp2_with fail
      refine HS.out.mono ?_
      rintro e w1 ⟨rfl, hd1, ho1, hz1⟩
      have HD1 := Lib.hid hd1
      have HO1 := Lib.hid ho1
      have c4 := hd1.c4
      obtain ⟨D, hown, hD⟩ := hd1.map
      have HM := Lib.hid hD
      have HL := Lib.hid hd1.llt
      have HMM := Lib.hid hd1.mlt
      clear hd1 ho1 hz1 hD HW HS HD
      go_wp2_with (at_range; refine wpList_range_own _ rfl _ 102 rfl 3 68 keyLaw Tryz.underlying102 pageR m (Maps.size D) D rfl hown ?_; intro w0 hrg0 hg0 hs0)
      go_frame
      have HST := Lib.hid (flush_loop_start HD1.out HM.out hrg0 hg0)
      clear hrg0 hg0 hs0 hown
      go_loopw [20] (fun _ wr => ∃ (left : Lit → Bool) (cnt : Nat), FlushAt w1 l m w1.heap.size s1 D left cnt wr) (fun _ wr => wr.rangeLeft m w1.heap.size)
      case atStart => exact ⟨_, _, HST.out⟩
      case round =>
        obtain ⟨left, cnt, hfl⟩ := hrel
        have HFL := Lib.hid hfl
        have hrg := hfl.rg
        clear hfl HST
        go_wp2_with (at_next; refine wpList_next_ranges _ rfl _ rfl 3 keyLaw pageR (Value.int .i64) pageV invK invV m w1.heap.size (Maps.size D) D left cnt rfl hrg ?_ ?_)
        · intro _ hl0
          have HL0 := Lib.hid hl0
          clear hl0
          have c4' : wr.cell? ⟨d, 4, none⟩ = some (.map (some m)) := (HFL.out.only.cell (p := ⟨d, 4, none⟩) HD1.out.dlt (by simpa using HD1.out.dl)).trans c4
          obtain ⟨w2, hcl0, hmp, htn⟩ := MapAt.clear (w := wr) (b := m) (c := s1.cache) ⟨D, tight hrg.owns, HM.out⟩ s1.last.length 0
          have hcl : ∀ ty, (Builtin.clear_ #[102] ty #[.map (some m)]).run Tryz.prog wr = .ok (.tuple #[]) w2 := fun ty => hcl0
          clear hcl0
          go_wp2
          go_ret
          obtain ⟨q1, q2⟩ := flush_end HD1.out HFL.out HL0.out hmp htn
          exact ⟨rfl, q1, (HO1.out.mono (by simp)).trans (q2.mono (by simp))⟩
        · intro x c kl y1 y2 w2 cnt2 hkey hlx hv hat hrg2 hlt hg2 hs2 hen
          obtain ⟨i, rfl, rfl, hi, hci, hcl⟩ := came (y := (y1, y2)) HD1.out.ok HM.out hkey (HFL.out.sub _ hlx) hv hat
          have HI := Lib.hid hi
          have HCI := Lib.hid hci
          have HCL := Lib.hid hcl
          have hilen : (i : Int) < (s1.last.length : Int) := by omega
          have hi0 : (0 : Int) ≤ (i : Int) := by omega
          have HNX := Lib.hid (fun (W : World) (hb : Below w2.heap.size w2 W) => flush_next (w2 := W) HFL.out (Nat.le_refl _) HL.out HMM.out HD1.out.lm hrg2 hg2 hi hci hcl hb)
          have HLT := Lib.hid hlt
          clear hkey hlx hv hat hci hcl hi hs2 hlt hg2
          go_wp2_with (first
            | ((with_reducible refine wpList_store_new rfl (.tmp 5) (.tmp 24) rfl rfl ?_ ?_ HCL.out ?_); (exact rfl); (exact rfl); intro W2 hP hB2 hz2))
          have HQ := Lib.hid (HNX.out W2.drew hB2.drew)
          have c3'' : W2.drew.cell? ⟨d, 3, none⟩ = some (.slice (some ⟨l, 0, none⟩) s1.last.length s1.last.length) := (HQ.out.2.2.cell (p := ⟨d, 3, none⟩) HD1.out.dlt (by simpa using HD1.out.dl)).trans HD1.out.c3
          have HPP := Lib.hid hP
          clear hen hB2 hz2 hP
          refine wp_region_still_tail 7 (by kernel_rfl) (by kernel_rfl) ?_
          simp only [List.take_succ_cons, List.take_zero, List.drop_succ_cons, List.drop_zero]
          change wpStill _ _ W2.drew (fun a' => wpList _ _ _ _ a' W2.drew) _ _
          still_step
          still_step
          still_step
          still_step
          still_step
          refine wpStill_load_page (HPP.out.block rfl) rfl (.tmp 5) rfl rfl ?_
          still_step
          refine wpStill_nil ?_
          refine wpList_store_row HQ.out.1 i (by rw [mixL_length]; exact HI.out) HCL.out rfl (.tmp 31) (.tmp 30) rfl rfl rfl ?_
          go_frame
          go_wp2
          go_roundw
          case rel => exact ⟨_, _, HQ.out.2.1⟩
          case measure => rw [HQ.out.2.1.rg.left_eq, hrg.left_eq]; exact HLT.out
    · have HF : Hid (Dk.flush s = Dk.spend s) := Lib.hid (by unfold Dk.flush; rw [if_neg hnd, if_neg e0])
      rw [HE.out, HF.out]
      have hne2 : (Dk.spendE s == 0) = false := by simpa using e0
      have hne3 : (Dk.spendE s != 0) = true := by simpa using e0
      generalize Dk.spendE s = E at HS hne2 hne3 ⊢
      clear h hdn hnd e0 HE HF
      go_enter Tryz.func117, Tryz.ntmps117
      go_wp2_with fail
      refine HW.out.mono ?_
      rintro e w' ⟨rfl, rfl⟩
      go_wp2_with fail
      refine HS.out.mono ?_
      rintro e w1 ⟨rfl, hd1, ho1, hz1⟩
      go_wp2
      go_ret
      exact ⟨rfl, hd1, ho1.mono (by simp)⟩
end Go.Proofs.YtncmihikpcdgoaaGreat

namespace Go.Proofs.YtncmihikpcdgoaaGreat
open Go.RowKit Go.Maps
open Dk (zeros zeros_length)
/-- bytes in a slice, in none of some blocks -/
structure KeepAt (w : World) (A : Option Addr) (c : Nat) (keep : List UInt8) (L : List Nat) : Prop where
  small : keep.length ≤ 1000
  room : keep.length ≤ c
  cells : 0 < keep.length → ∃ kb ko, A = some ⟨kb, ko, none⟩ ∧ kb < w.heap.size ∧ kb ∉ L ∧ ∀ j, j < keep.length → w.cell? ⟨kb, ko + j, none⟩ = some (.int .u8 ((keep.getD j 0).toNat : Int))
set_option maxRecDepth 100000 in
theorem KeepAt.only {w w' : World} {A : Option Addr} {c : Nat} {keep : List UInt8} {L L' : List Nat} (h : KeepAt w A c keep L) (ho : Only L' w w') (hL : ∀ k ∈ L', k ∈ L) : KeepAt w' A c keep L :=
  ⟨h.small, h.room, fun h0 => by
    obtain ⟨kb, ko, e, h1, h2, h3⟩ := h.cells h0
    exact ⟨kb, ko, e, Nat.lt_of_lt_of_le h1 ho.size, h2, fun j hj => (ho.cell (p := ⟨kb, ko + j, none⟩) h1 (fun q => h2 (hL _ q))).trans (h3 j hj)⟩⟩
set_option maxRecDepth 100000 in
theorem KeepAt.below {w w' : World} {A : Option Addr} {c : Nat} {keep : List UInt8} {L : List Nat} (h : KeepAt w A c keep L) (hb : Below w.heap.size w w') : KeepAt w' A c keep L := h.only (L' := []) (Only.below hb) (by simp)
/-- the loop's state -/
structure CrashAt (w : World) (l : Nat) (s : Dk.St) (keep : List UInt8) (k : Nat) (wr : World) : Prop where
  rows : RowsAt wr l (Dk.crashTo s keep k).1
  only : Only [l] w wr
set_option maxRecDepth 100000 in
theorem CrashAt.disk {w wr : World} {d l m : Nat} {s : Dk.St} (h : DiskAt w d l m s) {keep : List UInt8} {k : Nat} (hc : CrashAt w l s keep k wr) :
    wr.cell? ⟨d, 3, none⟩ = some (.slice (some ⟨l, 0, none⟩) s.last.length s.last.length) ∧ wr.cell? ⟨d, 4, none⟩ = some (.map (some m)) ∧ MapAt wr m s.cache :=
  ⟨(hc.only.cell (p := ⟨d, 3, none⟩) h.dlt (by simpa using h.dl)).trans h.c3, (hc.only.cell (p := ⟨d, 4, none⟩) h.dlt (by simpa using h.dl)).trans h.c4, h.map.block (hc.only.block m h.mlt (by simpa using Ne.symm h.lm))⟩
end Go.Proofs.YtncmihikpcdgoaaGreat

namespace Go.Proofs.YtncmihikpcdgoaaGreat
open Go.RowKit
open Dk (zeros zeros_length)
section
variable {ops : Array Oper} {Q : Exit → Act → World → Prop} {md : Region.Mode} {S : World → Prop}
set_option maxRecDepth 100000 in
/-- an operation of a region is taken first; the slot that it writes is named -/
theorem take_at {P : Program} {i : Nat} {oi : Oper} {v : Value} {fuel : Nat} {listed : Array Bool} {a : Act} {w : World} {d : Option Tmp} (hi : ops[i]? = some oi) (hd : oi.dst = d)
    (hs : Region.noSelect ops = true) (hf : Region.free md ops listed i = true) (hr : (Region.ready md ops listed).contains i = true)
    (hQ : ∀ c a w, Q (.panic c) (a.put oi.dst v) w → Q (.panic c) a w) (hy : YieldsIf P ops S oi v a) (hS : S w)
    (h : wpAnyH P md ops Q S fuel (listed.setIfInBounds i true) (a.put d v) w) : wpAnyH P md ops Q S (fuel + 1) listed a w :=
  wpAnyH_take hi hs hf hr hQ hy hS (hd ▸ h)
set_option maxRecDepth 100000 in
/-- a whole page, under S -/
theorem yields_page {oi : Oper} {a : Act} {b o : Nat} {p : List UInt8} (hw : Region.wanted oi (yielded ops a.tmps) = true) (x : Operand) (ho : oi.op = .load 68 x) (hx : a.eval x = .pointer (some ⟨b, o, none⟩)) (hp : p.length = 64) (hS : ∀ w, S w → w.rangeAt b o (byteVals p)) :
    YieldsIf Tryz.prog ops S oi (pageV p) a :=
  yieldsIf_load_mid hw 68 x ho b o hx (byteVals p) _ hS Tryz.underlying68 rfl (by rw [page_info, byteVals_length, hp])
set_option maxRecDepth 100000 in
theorem anyH_one {P : Program} {i : Nat} {oi : Oper} {fuel : Nat} {listed : Array Bool} {a : Act} {w : World} (hr : Region.ready md ops listed = [i]) (hi : ops[i]? = some oi) (hw : Region.wanted oi (yielded ops a.tmps) = true)
    (h : ∀ K : Act → World → Prop, (∀ a w, S w → wpAnyH P md ops Q S fuel (listed.setIfInBounds i true) a w → K a w) → Oper.wp P oi a w K Q) : wpAnyH P md ops Q S (fuel + 1) listed a w := by
  refine wpAnyH_ready hr (by simp) (AllReadyH.cons hi (fun K hK => ?_) AllReadyH.nil)
  rw [if_pos hw]
  exact h K (fun a w hS hW => hK.out a w hS (fun _ => hW))
set_option maxRecDepth 100000 in
theorem anyH_load_row {i : Nat} {oi : Oper} {fuel : Nat} {listed : Array Bool} {a : Act} {w : World} {b : Nat} {ps : List (List UInt8)} (h : RowsAt w b ps) (n : Nat) {p : List UInt8} (hn : ps[n]? = some p)
    (hr : Region.ready md ops listed = [i]) (hi : ops[i]? = some oi) (hw : Region.wanted oi (yielded ops a.tmps) = true) (x : Operand) (ho : oi.op = .load 68 x) (hx : a.eval x = .pointer (some ⟨b, n * 64, none⟩)) (d : Option Tmp) (hd : oi.dst = d) (hS : S w)
    (hK : wpAnyH Tryz.prog md ops Q S fuel (listed.setIfInBounds i true) (a.put d (pageV p)) w) : wpAnyH Tryz.prog md ops Q S (fuel + 1) listed a w :=
  anyH_one hr hi hw fun _ hK' => wp_load_mid 68 x ho b (n * 64) hx (byteVals p) _ (h.range n p hn) Tryz.underlying68 rfl (by rw [page_info, byteVals_length, h.size p (List.mem_of_getElem? hn)]) (hK' _ _ hS (hd ▸ hK))
set_option maxRecDepth 100000 in
theorem anyH_store_row {i : Nat} {oi : Oper} {fuel : Nat} {listed : Array Bool} {a : Act} {w : World} {b : Nat} {ps : List (List UInt8)} (h : RowsAt w b ps) (n : Nat) (hn : n < ps.length) {p : List UInt8} (hp : p.length = 64)
    (hr : Region.ready md ops listed = [i]) (hi : ops[i]? = some oi) (hw : Region.wanted oi (yielded ops a.tmps) = true) (x y : Operand) (ho : oi.op = .store 68 x y) (hx : a.eval x = .pointer (some ⟨b, n * 64, none⟩)) (hy : a.eval y = pageV p) (d : Option Tmp) (hd : oi.dst = d)
    (hS : S (w.setCells b (n * 64) (byteVals p)))
    (hK : wpAnyH Tryz.prog md ops Q S fuel (listed.setIfInBounds i true) (a.put d undef) (w.setCells b (n * 64) (byteVals p))) : wpAnyH Tryz.prog md ops Q S (fuel + 1) listed a w :=
  anyH_one hr hi hw fun _ hK' => wp_store_mid 68 x y ho b (n * 64) (byteVals p).toArray hx hy (by rw [List.size_toArray, byteVals_length, hp]; exact h.thereAt n hn) (by rw [page_info, List.size_toArray, byteVals_length, hp]) (all_oneCell_toArray (byteVals_one p)) (by
    rw [List.toList_toArray]
    exact hK' _ _ hS (hd ▸ hK))
end
end Go.Proofs.YtncmihikpcdgoaaGreat

namespace Go.Proofs.YtncmihikpcdgoaaGreat
open Go.RowKit Go.Maps
open Dk (zeros zeros_length)
end Go.Proofs.YtncmihikpcdgoaaGreat

namespace Go.Proofs.YtncmihikpcdgoaaGreat
open Go.ChangeShapes Go.WideShapes Go.ChangeAt Go.RowKit
open Dk (zeros zeros_length)
set_option maxRecDepth 100000 in
theorem run_neGuard_page (w : World) (x y : Operand) (p q : List UInt8) : (eqGuard .neq 68 x y (pageV p) (pageV q)).run Tryz.prog w = .ok () w :=
  run_eqGuard_agg w .neq 68 x y _ _ (by kernel_rfl)
set_option maxRecDepth 100000 in
theorem run_neq_same (w : World) (p : List UInt8) (hp : p.length = 64) : (binOp .neq 68 (pageV p) (pageV p)).run Tryz.prog w = .ok (.bool false) w := by
  rw [run_neq_page w p p hp hp]; simp
set_option maxRecDepth 100000 in
theorem laidOut : laidOutB Tryz.prog = true := by kernel_rfl
set_option maxRecDepth 100000 in
theorem own : ownKnob Tryz.prog.godebug = none := by kernel_rfl
end Go.Proofs.YtncmihikpcdgoaaGreat

namespace Go.Proofs.YtncmihikpcdgoaaGreat
open Go.RowKit
open Dk (zeros zeros_length)
open Hd (Head rightB pageH)
set_option maxRecDepth 100000 in
theorem run_neq_not (w : World) (p q : List UInt8) (hp : p.length = 64) (hq : q.length = 64) (h : p ≠ q) : (binOp .neq 68 (pageV p) (pageV q)).run Tryz.prog w = .ok (.bool true) w := by
  rw [run_neq_page w p q hp hq, decide_eq_false h]; rfl
set_option maxRecDepth 100000 in
theorem rdS_box (w : World) (p : List UInt8) (h : Head) (hp : p.length = 64) : RdS w p h false ((w.alloc (.cells (byteVals p).toArray 68)).alloc (.cells #[.int .i64 0, .bool false, .int .i64 0, .int .u32 0] 191)) where
  page := (pageAt_new w p _ hp).alloc _
  res := by
    have := headAt_new (w.alloc (.cells (byteVals p).toArray 68)) Hd.zero 191
    have e : (w.alloc (.cells (byteVals p).toArray 68)).heap.size = w.heap.size + 1 := by simp
    rw [e] at this
    exact this
  below := ((Below.refl _ _).alloc (Nat.le_refl _) _).alloc (by simp) _
set_option maxRecDepth 100000 in
set_option maxHeartbeats 1000000 in
theorem decode_yes (p : List UInt8) (w : World) (hp : p.length = 64) (h : Hd.wholeB p = true) :
    Calls Tryz.prog 161 #[pageV p] w fun e w' => e = .returned (.tuple #[headV (Hd.readH p), .bool true]) ∧ Below w.heap.size w w' := by
  have HP := Lib.hid hp
  have hbd := Hd.read_bd p hp
  have HR := Lib.hid (fun (w : World) => hread_any p w hp)
  have HS := Lib.hid (rdS_box w p (Hd.readH p) hp)
  have HE : Hid (∀ w, Calls Tryz.prog 166 #[headV (Hd.readH p)] w fun e w' => e = .returned (.tuple #[pageV p, .int .i64 0]) ∧ Below w.heap.size w w') := Lib.hid (fun w => by
    have := encode_yes (Hd.readH p) w (Hd.whole_yes h).1 hbd.2.2.2.2.1 hbd.2.2.2.2.2
    rw [(Hd.whole_yes h).2] at this
    exact this)
  clear h
  have E1 := fun (x y : Operand) (w : World) => run_neGuard_page w x y p p
  have E2 := fun (w : World) => run_neq_same w p hp
  clear hp hbd
  generalize Hd.readH p = h at *
  unfold pageV
  go_enter Tryz.func161, Tryz.ntmps161
  go_wp2_with (with_reducible refine wpList_load_page HS.out.page rfl (.tmp 1) rfl rfl ?_)
  refine (HR.out _).mono ?_
  rintro e w2 ⟨rfl, hb2⟩
  have S2 := Lib.hid (HS.out.call hb2)
  clear HS HR hb2
  go_wp2_with (first
    | ((with_reducible refine wpList_store_newhead headT (h := h) rfl (.tmp 4) (.tmp 8) rfl rfl ?_ ?_ ?_); (exact rfl); (exact rfl); intro W3 hH hB3 hz3; have S3 := Lib.hid (S2.out.call hB3); have H3 := Lib.hid hH; clear S2 hH hB3 hz3; generalize w2.heap.size = C at H3 ⊢)
    | ((with_reducible refine wpList_load_head headT H3.out rfl (.tmp 4) rfl rfl ?_)))
  refine (HE.out _).mono ?_
  rintro e w4 ⟨rfl, hb4⟩
  have S4 := Lib.hid (S3.out.call hb4)
  have H4 := Lib.hid (H3.out.below hb4 H3.out.lt)
  clear S3 H3 hb4
  go_wp2_with (first
    | ((with_reducible refine wpList_store_new rfl (.tmp 5) (.tmp 12) rfl rfl ?_ ?_ HP.out ?_); (exact rfl); (exact rfl); intro W5 hP hB5 hz5; have S5 := Lib.hid (S4.out.call hB5); have H5 := Lib.hid (H4.out.below hB5 H4.out.lt); have P5 := Lib.hid hP; clear S4 H4 hP hB5 hz5; generalize w4.heap.size = D at P5 ⊢)
    | ((with_reducible refine wpList_load_guarded P5.out (.tmp 5) rfl rfl (by kernel_rfl) ?_))
    | ((with_reducible refine wpList_load_guarded S5.out.page (.tmp 1) rfl rfl (by kernel_rfl) ?_))
    | ((with_reducible refine wpList_load_head headT H5.out rfl (.tmp 4) rfl rfl ?_))
    | ((with_reducible refine wpList_store_head headT (h := h) S5.out.res rfl (.tmp 2) (.tmp 22) rfl rfl ?_ ?_); (exact rfl)))
  exact bodyPost_ret (results_head2 headT _ 2 3 rfl _ (S5.out.res.put _) rfl rfl) rfl ⟨rfl, below_setCells _ (by omega) _ _ _ S5.out.below⟩
set_option maxRecDepth 100000 in
set_option maxHeartbeats 1000000 in
theorem decode_bad (p : List UInt8) (w : World) (hp : p.length = 64) (h : rightB (Hd.readH p) = false) :
    Calls Tryz.prog 161 #[pageV p] w fun e w' => e = .returned (.tuple #[headV Hd.zero, .bool false]) ∧ Below w.heap.size w w' := by
  have HP := Lib.hid hp
  have hbd := Hd.read_bd p hp
  have HR := Lib.hid (fun (w : World) => hread_any p w hp)
  have HS := Lib.hid (rdS_box w p (Hd.readH p) hp)
  have HE := Lib.hid (fun (w : World) => encode_no (Hd.readH p) w h)
  clear h

  clear hp hbd
  generalize Hd.readH p = h at *
  unfold pageV
  go_enter Tryz.func161, Tryz.ntmps161
  go_wp2_with (with_reducible refine wpList_load_page HS.out.page rfl (.tmp 1) rfl rfl ?_)
  refine (HR.out _).mono ?_
  rintro e w2 ⟨rfl, hb2⟩
  have S2 := Lib.hid (HS.out.call hb2)
  clear HS HR hb2
  go_wp2_with (first
    | ((with_reducible refine wpList_store_newhead headT (h := h) rfl (.tmp 4) (.tmp 8) rfl rfl ?_ ?_ ?_); (exact rfl); (exact rfl); intro W3 hH hB3 hz3; have S3 := Lib.hid (S2.out.call hB3); have H3 := Lib.hid hH; clear S2 hH hB3 hz3; generalize w2.heap.size = C at H3 ⊢)
    | ((with_reducible refine wpList_load_head headT H3.out rfl (.tmp 4) rfl rfl ?_)))
  refine (HE.out _).mono ?_
  rintro e w4 ⟨rfl, hb4⟩
  have S4 := Lib.hid (S3.out.call hb4)
  have H4 := Lib.hid (H3.out.below hb4 H3.out.lt)
  clear S3 H3 hb4
  go_wp2_with (first
    | ((with_reducible refine wpList_store_new rfl (.tmp 5) (.tmp 12) rfl rfl ?_ ?_ zeros_length ?_); (exact rfl); (exact rfl); intro W5 hP hB5 hz5; have S5 := Lib.hid (S4.out.call hB5); have H5 := Lib.hid (H4.out.below hB5 H4.out.lt); have P5 := Lib.hid hP; clear S4 H4 hP hB5 hz5; generalize w4.heap.size = D at P5 ⊢)
    | ((with_reducible refine wpList_load_head headT H5.out rfl (.tmp 4) rfl rfl ?_))
    | ((with_reducible refine wpList_store_head headT (h := Hd.zero) S5.out.res rfl (.tmp 2) (.tmp 21) rfl rfl ?_ ?_); (exact rfl)))
  exact bodyPost_ret (results_head2 headT _ 2 3 rfl _ (S5.out.res.put _) rfl rfl) rfl ⟨rfl, below_setCells _ (by omega) _ _ _ S5.out.below⟩
set_option maxRecDepth 100000 in
set_option maxHeartbeats 1000000 in
theorem decode_torn (p : List UInt8) (w : World) (hp : p.length = 64) (h : rightB (Hd.readH p) = true) (hne : pageH (Hd.readH p) ≠ p) :
    Calls Tryz.prog 161 #[pageV p] w fun e w' => e = .returned (.tuple #[headV Hd.zero, .bool false]) ∧ Below w.heap.size w w' := by
  have HP := Lib.hid hp
  have hbd := Hd.read_bd p hp
  have HR := Lib.hid (fun (w : World) => hread_any p w hp)
  have HS := Lib.hid (rdS_box w p (Hd.readH p) hp)
  have HE := Lib.hid (fun (w : World) => encode_yes (Hd.readH p) w h hbd.2.2.2.2.1 hbd.2.2.2.2.2)
  have HQ := Lib.hid (Hd.pageH_length (Hd.readH p))
  clear h
  have E1 := fun (x y : Operand) (w : World) => run_neGuard_page w x y (pageH (Hd.readH p)) p
  have E2 := fun (w : World) => run_neq_not w (pageH (Hd.readH p)) p HQ.out hp hne
  clear hne
  clear hp hbd
  generalize Hd.readH p = h at *
  unfold pageV
  go_enter Tryz.func161, Tryz.ntmps161
  go_wp2_with (with_reducible refine wpList_load_page HS.out.page rfl (.tmp 1) rfl rfl ?_)
  refine (HR.out _).mono ?_
  rintro e w2 ⟨rfl, hb2⟩
  have S2 := Lib.hid (HS.out.call hb2)
  clear HS HR hb2
  go_wp2_with (first
    | ((with_reducible refine wpList_store_newhead headT (h := h) rfl (.tmp 4) (.tmp 8) rfl rfl ?_ ?_ ?_); (exact rfl); (exact rfl); intro W3 hH hB3 hz3; have S3 := Lib.hid (S2.out.call hB3); have H3 := Lib.hid hH; clear S2 hH hB3 hz3; generalize w2.heap.size = C at H3 ⊢)
    | ((with_reducible refine wpList_load_head headT H3.out rfl (.tmp 4) rfl rfl ?_)))
  refine (HE.out _).mono ?_
  rintro e w4 ⟨rfl, hb4⟩
  have S4 := Lib.hid (S3.out.call hb4)
  have H4 := Lib.hid (H3.out.below hb4 H3.out.lt)
  clear S3 H3 hb4
  go_wp2_with (first
    | ((with_reducible refine wpList_store_new rfl (.tmp 5) (.tmp 12) rfl rfl ?_ ?_ HQ.out ?_); (exact rfl); (exact rfl); intro W5 hP hB5 hz5; have S5 := Lib.hid (S4.out.call hB5); have H5 := Lib.hid (H4.out.below hB5 H4.out.lt); have P5 := Lib.hid hP; clear S4 H4 hP hB5 hz5; generalize w4.heap.size = D at P5 ⊢)
    | ((with_reducible refine wpList_load_guarded P5.out (.tmp 5) rfl rfl (by kernel_rfl) ?_))
    | ((with_reducible refine wpList_load_guarded S5.out.page (.tmp 1) rfl rfl (by kernel_rfl) ?_))
    | ((with_reducible refine wpList_load_head headT H5.out rfl (.tmp 4) rfl rfl ?_))
    | ((with_reducible refine wpList_store_head headT (h := Hd.zero) S5.out.res rfl (.tmp 2) (.tmp 21) rfl rfl ?_ ?_); (exact rfl)))
  exact bodyPost_ret (results_head2 headT _ 2 3 rfl _ (S5.out.res.put _) rfl rfl) rfl ⟨rfl, below_setCells _ (by omega) _ _ _ S5.out.below⟩
set_option maxRecDepth 100000 in
theorem decode_no (p : List UInt8) (w : World) (hp : p.length = 64) (h : Hd.wholeB p = false) :
    Calls Tryz.prog 161 #[pageV p] w fun e w' => e = .returned (.tuple #[headV Hd.zero, .bool false]) ∧ Below w.heap.size w w' := by
  cases hr : rightB (Hd.readH p) with
  | false => exact decode_bad p w hp hr
  | true =>
    refine decode_torn p w hp hr (fun e => ?_)
    unfold Hd.wholeB at h
    rw [hr, e] at h
    simp at h
set_option maxRecDepth 100000 in
theorem decode_any (p : List UInt8) (w : World) (hp : p.length = 64) :
    Calls Tryz.prog 161 #[pageV p] w fun e w' => e = .returned (.tuple #[headV (Hd.decH p), .bool (Hd.wholeB p)]) ∧ Below w.heap.size w w' := by
  unfold Hd.decH
  cases h : Hd.wholeB p with
  | true => exact decode_yes p w hp h
  | false => exact decode_no p w hp h
end Go.Proofs.YtncmihikpcdgoaaGreat

namespace Go.Proofs.YtncmihikpcdgoaaGreat
open Go.ChangeShapes Go.WideShapes Go.ChangeAt Go.RowKit
open Dk (zeros zeros_length)
set_option maxRecDepth 100000 in
theorem list_of {α : Type} (P : Nat → α → Prop) : ∀ (n : Nat), (∀ i, i < n → ∃ a, P i a) → ∃ l : List α, l.length = n ∧ ∀ i, i < n → ∃ a, l[i]? = some a ∧ P i a
  | 0, _ => ⟨[], rfl, fun i hi => by omega⟩
  | n + 1, h => by
    obtain ⟨l, hl, hp⟩ := list_of P n (fun i hi => h i (by omega))
    obtain ⟨a, ha⟩ := h n (by omega)
    refine ⟨l ++ [a], by simp [hl], fun i hi => ?_⟩
    rcases Nat.lt_or_ge i n with hlt | hge
    · obtain ⟨x, hx, hpx⟩ := hp i hlt
      exact ⟨x, by rw [List.getElem?_append_left (by omega)]; exact hx, hpx⟩
    · obtain rfl : i = n := by omega
      exact ⟨a, by rw [List.getElem?_append_right (by omega), hl, Nat.sub_self]; rfl, ha⟩
/-- a row of pages in memory -/
structure PageRow (w : World) (A : Option Addr) (n : Nat) (ps : List (List UInt8)) : Prop where
  len : ps.length = n
  small : n ≤ maxLen
  size : ∀ p ∈ ps, p.length = 64
  cells : 0 < n → ∃ b off, A = some ⟨b, off, none⟩ ∧ b < w.heap.size ∧ ∀ i p, ps[i]? = some p → w.rangeAt b (off + i * 64) (byteVals p)
set_option maxRecDepth 100000 in
theorem PageRow.below {N : Nat} {w w' : World} {A : Option Addr} {n : Nat} {ps : List (List UInt8)} (h : PageRow w A n ps) (hb : Below N w w') (hN : ∀ b off, A = some ⟨b, off, none⟩ → b < N) : PageRow w' A n ps where
  len := h.len
  small := h.small
  size := h.size
  cells := fun hn => by
    obtain ⟨b, off, rfl, hlt, hc⟩ := h.cells hn
    have hbn := hN b off rfl
    exact ⟨b, off, rfl, Nat.lt_of_lt_of_le hlt hb.size, fun i p hi j v hv => (hb.cell (p := ⟨b, off + i * 64 + j, none⟩) hbn).trans (hc i p hi j v hv)⟩
set_option maxRecDepth 100000 in
theorem PageRow.step {w w' : World} {A : Option Addr} {n : Nat} {ps : List (List UInt8)} (h : PageRow w A n ps) (hb : Below w.heap.size w w') : PageRow w' A n ps where
  len := h.len
  small := h.small
  size := h.size
  cells := fun hn => by
    obtain ⟨b, off, rfl, hlt, hc⟩ := h.cells hn
    exact ⟨b, off, rfl, Nat.lt_of_lt_of_le hlt hb.size, fun i p hi j v hv => (hb.cell (p := ⟨b, off + i * 64 + j, none⟩) hlt).trans (hc i p hi j v hv)⟩
structure ByteRow (w : World) (A : Option Addr) (n c : Nat) (bs : List UInt8) : Prop where
  len : bs.length = n
  room : n ≤ c
  small : n ≤ maxLen
  cells : 0 < n → ∃ b off, A = some ⟨b, off, none⟩ ∧ b < w.heap.size ∧ ∀ j, j < n → w.cell? ⟨b, off + j, none⟩ = some (.int .u8 ((bs.getD j 0).toNat : Int))
set_option maxRecDepth 100000 in
theorem ByteRow.below {w w' : World} {A : Option Addr} {n c : Nat} {bs : List UInt8} (h : ByteRow w A n c bs) (hb : Below w.heap.size w w') : ByteRow w' A n c bs where
  len := h.len
  room := h.room
  small := h.small
  cells := fun h0 => by
    obtain ⟨b, off, rfl, hlt, hc⟩ := h.cells h0
    exact ⟨b, off, rfl, Nat.lt_of_lt_of_le hlt hb.size, fun j hj => (hb.cell (p := ⟨b, off + j, none⟩) hlt).trans (hc j hj)⟩
set_option maxRecDepth 100000 in
/-- for a crash: behind what the call has made -/
theorem ByteRow.keep {w W : World} {A : Option Addr} {n c : Nat} {bs : List UInt8} {L : List Nat} (h : ByteRow w A n c bs) (hn : n ≤ 1000) (hb : Below w.heap.size w W) (hL : ∀ k ∈ L, w.heap.size ≤ k) : KeepAt W A c bs L where
  small := by rw [h.len]; exact hn
  room := by rw [h.len]; exact h.room
  cells := fun h0 => by
    obtain ⟨b, off, e, hlt, hc⟩ := h.cells (by rw [h.len] at h0; exact h0)
    exact ⟨b, off, e, Nat.lt_of_lt_of_le hlt hb.size, fun q => by have := hL _ q; omega, fun j hj => (hb.cell (p := ⟨b, off + j, none⟩) hlt).trans (hc j (by rw [h.len] at hj; exact hj))⟩
end Go.Proofs.YtncmihikpcdgoaaGreat

namespace Go.Proofs.YtncmihikpcdgoaaGreat
open Go.RowKit
open Dk (zeros zeros_length)
open Hd (Head rightB pageH)
set_option maxRecDepth 100000 in
theorem wpList_load_at {ops : Array Oper} {rest : List Oper} {op : Oper} {a : Act} {Q : Exit → Act → World → Prop} {w : World} {b o : Nat} {p : List UInt8} (hr : w.rangeAt b o (byteVals p)) (hp : p.length = 64) (hgd : op.guard = none) (x : Operand) (ho : op.op = .load 68 x)
    (hx : a.eval x = .pointer (some ⟨b, o, none⟩)) (h : wpList Tryz.prog ops Q rest (a.put op.dst (pageV p)) w) : wpList Tryz.prog ops Q (op :: rest) a w :=
  wpList_load_mid hgd 68 x ho b o hx (byteVals p) _ hr Tryz.underlying68 rfl (by rw [page_info, byteVals_length, hp]) h
set_option maxRecDepth 100000 in
theorem take_more {α : Type} (l : List α) (k : Nat) (a : α) (h : l[k]? = some a) : l.take (k + 1) = l.take k ++ [a] := by
  obtain ⟨hk, he⟩ := List.getElem?_eq_some_iff.1 h
  rw [List.take_succ_eq_append_getElem hk, he]
/-- what stands in memory in a round: the row, and the page of this round -/
def NxR (w0 : World) (A : Option Addr) (n : Nat) (ps : List (List UInt8)) (W : World) : Prop := PageRow W A n ps ∧ Below w0.heap.size w0 W
set_option maxRecDepth 100000 in
theorem NxR.call {w0 : World} {A : Option Addr} {n : Nat} {ps : List (List UInt8)} {W W' : World} (k : NxR w0 A n ps W) (hb : Below W.heap.size W W') : NxR w0 A n ps W' := ⟨k.1.step hb, k.2.trans (hb.mono k.2.size)⟩
set_option maxRecDepth 100000 in
theorem PageRow.drew {w : World} {A : Option Addr} {n : Nat} {ps : List (List UInt8)} (h : PageRow w A n ps) : PageRow w.drew A n ps where
  len := h.len
  small := h.small
  size := h.size
  cells := fun hn => by
    obtain ⟨b, off, e, hlt, hc⟩ := h.cells hn
    exact ⟨b, off, e, hlt, fun i p hi => (World.rangeAt_drew ..).2 (hc i p hi)⟩
set_option maxRecDepth 100000 in
theorem NxR.drew {w0 : World} {A : Option Addr} {n : Nat} {ps : List (List UInt8)} {W : World} (k : NxR w0 A n ps W) : NxR w0 A n ps W.drew := ⟨k.1.drew, k.2.drew⟩
def NxS (w0 : World) (A : Option Addr) (n : Nat) (ps : List (List UInt8)) (B : Nat) (p : List UInt8) (W : World) : Prop := NxR w0 A n ps W ∧ PageAt W B p
set_option maxRecDepth 100000 in
theorem NxS.call {w0 : World} {A : Option Addr} {n : Nat} {ps : List (List UInt8)} {B : Nat} {p : List UInt8} {W W' : World} (k : NxS w0 A n ps B p W) (hb : Below W.heap.size W W') : NxS w0 A n ps B p W' := ⟨NxR.call k.1 hb, k.2.below hb k.2.lt⟩
set_option maxRecDepth 100000 in
set_option maxHeartbeats 2000000 in
theorem next_any (A : Option Addr) (n c : Nat) (ps : List (List UInt8)) (w : World) (hrow : PageRow w A n ps) :
    Calls Tryz.prog 162 #[.slice A n c] w fun e w' => e = .returned (.int .i64 (Hd.nextN ps)) ∧ Below w.heap.size w w' := by
  have hn := hrow.small
  unfold maxLen at hn
  have HR : Hid (NxR w A n ps w) := Lib.hid ⟨hrow, Below.refl _ _⟩
  have HL := Lib.hid hrow.len
  have HZ := Lib.hid hrow.size
  clear hrow
  go_enter Tryz.func162, Tryz.ntmps162
  go_wp2_with fail
  go_loopw [3, 8] (fun x i wr => ∃ k : Nat, k ≤ n ∧ i = .int .i64 k ∧ x = .int .i64 (Hd.nextN (ps.take k)) ∧ NxR w A n ps wr) (fun _ i _ => n - (intOf i).toNat)
  case atStart => exact ⟨0, Nat.zero_le _, rfl, rfl, HR.out⟩
  case round =>
    obtain ⟨k, hk, rfl, rfl, hnx⟩ := hrel
    have HX := Lib.hid hnx
    clear hnx HR
    by_cases hlt : k < n
    · obtain ⟨b, off, rfl, hb, hc⟩ := HX.out.1.cells (by omega)
      obtain ⟨p, hp⟩ : ∃ p, ps[k]? = some p := ⟨_, List.getElem?_eq_getElem (by rw [HL.out]; exact hlt)⟩
      have HP := Lib.hid (hc k p hp)
      have HPL := Lib.hid (HZ.out p (List.mem_of_getElem? hp))
      have HT := Lib.hid (take_more ps k p hp)
      have G0 := Lib.hid (fun (w : World) => get_any p 0 4 w HPL.out (by omega) (by omega))
      have G6 := Lib.hid (fun (w : World) => get_any p 60 4 w HPL.out (by omega) (by omega))
      have hbd := Hd.get_bd p HPL.out
      have HU : Hid (Hd.nextN (ps.take (k + 1)) = max (max (Hd.nextN (ps.take k)) (Pg.getN p 0 4 + 1)) (Pg.getN p 60 4 + 1)) := Lib.hid (by rw [HT.out, Hd.nextN_snoc]; rfl)
      have hx0 := Hd.nextN_nonneg (ps.take k)
      have hx1 := Hd.nextN_top (ps.take k) (fun q hq => HZ.out q (List.mem_of_mem_take hq))
      clear hc hp hb HT
      generalize Hd.nextN (ps.take k) = x at HU hx0 hx1 ⊢
      generalize Pg.getN p 0 4 = g0 at G0 HU hbd
      generalize Pg.getN p 60 4 = g6 at G6 HU hbd
      obtain ⟨b1, b2, b3, b4⟩ := hbd
      have w1 : IntKind.i64.wrap (g0 + 1) = g0 + 1 := IntWalk.i64_in _ (by omega)
      have w2 : IntKind.i64.wrap (g6 + 1) = g6 + 1 := IntWalk.i64_in _ (by omega)
      have hk0 : (0 : Int) ≤ (k : Int) := by omega
      have hk1 : (k : Int) < (n : Int) := by omega
      go_wp2_with (first
        | ((with_reducible refine wpList_load_at HP.out HPL.out rfl (.tmp 10) rfl ?_ ?_); (exact rfl))
        | ((with_reducible refine wpList_store_new rfl (.tmp 5) (.tmp 11) rfl rfl ?_ ?_ HPL.out ?_); (exact rfl); (exact rfl); intro W2 hP hB2 hz2; have S2 : Hid (NxS w (some ⟨b, off, none⟩) n ps wr.heap.size p W2) := Lib.hid ⟨NxR.call HX.out hB2, hP⟩; clear HX hP hB2 hz2; generalize wr.heap.size = B at S2 ⊢))
      obtain ⟨y, hy⟩ : ∃ y, max (max x (g0 + 1)) (g6 + 1) = y := ⟨_, rfl⟩
      have HY := Lib.hid hy
      clear hy
      refine wp_region_lin (fun (_ : Unit) => NxS w (some ⟨b, off, none⟩) n ps B p) (fun _ => false) (fun i => [.int .i64 x, pageV p, .int .i64 g0, .int .i64 (g0 + 1), pageV p, .int .i64 g6, .int .i64 (g6 + 1), .int .i64 y, .int .i64 y].getD i undef) (()) (by kernel_rfl) (by kernel_rfl) (⟨S2.out.1.drew, S2.out.2.drew⟩) ?_
      refine lin_step (i := 0) (d := some 12) (v := .int .i64 x) rfl rfl (by kernel_rfl) (by kernel_rfl) rfl rfl (ord_value (by kernel_rfl) ?_) ?_
      · intro _ _ _; go_simp
      (try simp only [Act.put, List.setIfInBounds_toArray, List.set_cons_zero, List.set_cons_succ])
      refine lin_step (i := 1) (d := some 13) (v := pageV p) rfl rfl (by kernel_rfl) (by kernel_rfl) rfl rfl (ord_page (by kernel_rfl) (.tmp 5) rfl rfl (fun _ _ hS => hS.2)) ?_
      (try simp only [Act.put, List.setIfInBounds_toArray, List.set_cons_zero, List.set_cons_succ])
      refine lin_step (i := 2) (d := some 14) (v := .int .i64 g0) rfl rfl (by kernel_rfl) (by kernel_rfl) rfl rfl (ord_call (f := 135) (args := #[pageV p, .int .i64 0, .int .i64 4]) (by kernel_rfl) ?_ (fun _ _ hS => (G0.out _).mono fun _ _ ⟨he, hb⟩ => ⟨he, NxS.call hS hb⟩)) ?_
      · intro _; go_simp
      (try simp only [Act.put, List.setIfInBounds_toArray, List.set_cons_zero, List.set_cons_succ])
      refine lin_step (i := 3) (d := some 15) (v := .int .i64 (g0 + 1)) rfl rfl (by kernel_rfl) (by kernel_rfl) rfl rfl (ord_value (by kernel_rfl) ?_) ?_
      · intro _ _ _; go_simp
      (try simp only [Act.put, List.setIfInBounds_toArray, List.set_cons_zero, List.set_cons_succ])
      refine lin_step (i := 4) (d := some 16) (v := pageV p) rfl rfl (by kernel_rfl) (by kernel_rfl) rfl rfl (ord_page (by kernel_rfl) (.tmp 5) rfl rfl (fun _ _ hS => hS.2)) ?_
      (try simp only [Act.put, List.setIfInBounds_toArray, List.set_cons_zero, List.set_cons_succ])
      refine lin_step (i := 5) (d := some 17) (v := .int .i64 g6) rfl rfl (by kernel_rfl) (by kernel_rfl) rfl rfl (ord_call (f := 135) (args := #[pageV p, .int .i64 60, .int .i64 4]) (by kernel_rfl) ?_ (fun _ _ hS => (G6.out _).mono fun _ _ ⟨he, hb⟩ => ⟨he, NxS.call hS hb⟩)) ?_
      · intro _; go_simp
      (try simp only [Act.put, List.setIfInBounds_toArray, List.set_cons_zero, List.set_cons_succ])
      refine lin_step (i := 6) (d := some 18) (v := .int .i64 (g6 + 1)) rfl rfl (by kernel_rfl) (by kernel_rfl) rfl rfl (ord_value (by kernel_rfl) ?_) ?_
      · intro _ _ _; go_simp
      (try simp only [Act.put, List.setIfInBounds_toArray, List.set_cons_zero, List.set_cons_succ])
      refine lin_step (i := 7) (d := some 19) (v := .int .i64 y) rfl rfl (by kernel_rfl) (by kernel_rfl) rfl rfl (ord_value (by kernel_rfl) ?_) ?_
      · intro _ _ _; go_simp; (rw [← HY.out]; (repeat' split) <;> omega)
      (try simp only [Act.put, List.setIfInBounds_toArray, List.set_cons_zero, List.set_cons_succ])
      refine lin_step (i := 8) (d := some 3) (v := .int .i64 y) rfl rfl (by kernel_rfl) (by kernel_rfl) rfl rfl (ord_value (by kernel_rfl) ?_) ?_
      · intro _ _ _; go_simp
      (try simp only [Act.put, List.setIfInBounds_toArray, List.set_cons_zero, List.set_cons_succ])
      refine lin_done (by kernel_rfl) ?_
      intro W3 hS
      have S3 := Lib.hid hS
      clear hS S2 w1 w2
      go_wp2_with fail
      go_roundw
      case rel => exact ⟨k + 1, by omega, by go_num, by rw [HU.out, HY.out], S3.out.1⟩
      case measure => simp [intOf]; omega
    · have HK : Hid (ps.take k = ps) := Lib.hid (List.take_of_length_le (by rw [HL.out]; omega))
      go_wp2_with fail
      go_ret
      exact ⟨ret_int (by rw [HK.out]), HX.out.2⟩
section
variable {ops : Array Oper} {σ : Type} {S : σ → World → Prop}
end
end Go.Proofs.YtncmihikpcdgoaaGreat

namespace Go.Proofs.YtncmihikpcdgoaaGreat.Mt
/-- one byte more: the halves a and b -/
def step (p : Int × Int) (c : UInt8) : Int × Int := ((p.1 + (c.toNat : Int)) % 65535, (p.2 + (p.1 + (c.toNat : Int)) % 65535) % 65535)
def run (p : Int × Int) (l : List UInt8) : Int × Int := l.foldl step p
def joinN (p : Int × Int) : Int := p.2 * 65536 + p.1
def splitN (s : Int) : Int × Int := (s % 65536 % 65535, s / 65536 % 65535)
def Fit (p : Int × Int) : Prop := 0 ≤ p.1 ∧ p.1 < 65535 ∧ 0 ≤ p.2 ∧ p.2 < 65535
theorem fit_step (p : Int × Int) (c : UInt8) : Fit (step p c) := by
  unfold Fit step
  exact ⟨Int.emod_nonneg _ (by omega), Int.emod_lt_of_pos _ (by omega), Int.emod_nonneg _ (by omega), Int.emod_lt_of_pos _ (by omega)⟩
theorem fit_run (p : Int × Int) (l : List UInt8) (h : Fit p) : Fit (run p l) := by
  induction l generalizing p with
  | nil => exact h
  | cons c l ih => exact ih _ (fit_step p c)
theorem fit_zero : Fit (0, 0) := by unfold Fit; simp
theorem run_append (p : Int × Int) (l r : List UInt8) : run p (l ++ r) = run (run p l) r := by
  unfold run; rw [List.foldl_append]
theorem run_snoc (p : Int × Int) (l : List UInt8) (c : UInt8) : run p (l ++ [c]) = step (run p l) c := by
  rw [run_append]; rfl
theorem join_bd (p : Int × Int) (h : Fit p) : 0 ≤ joinN p ∧ joinN p < 4294967296 := by
  unfold Fit at h; unfold joinN; omega
end Go.Proofs.YtncmihikpcdgoaaGreat.Mt

namespace Go.Proofs.YtncmihikpcdgoaaGreat
open Go.RowKit
set_option maxRecDepth 100000 in
theorem ret_int2 {k : IntKind} {a b c d : Int} (h : a = b) (h' : c = d) : Ending.returned (.tuple #[.int k a, .int k c]) = .returned (.tuple #[.int k b, .int k d]) := by rw [h, h']
set_option maxRecDepth 100000 in
theorem and_mask (s : Int) (h0 : 0 ≤ s) (h1 : s < 4294967296) : (bits BinOp.and IntKind.u32 s 65535).tmod 65535 = s % 65536 % 65535 := by
  rw [u32_and s 65535 h0 h1 (by omega) (by omega)]
  have e : s.toNat &&& (65535 : Int).toNat = s.toNat % 65536 := Nat.and_two_pow_sub_one_eq_mod s.toNat 16
  rw [e, Int.tmod_eq_emod_of_nonneg (by omega)]
  omega
set_option maxRecDepth 100000 in
theorem or_join (a b : Int) (h0 : 0 ≤ a) (h1 : a < 65535) (h2 : 0 ≤ b) (h3 : b < 65535) : bits BinOp.or IntKind.u32 (b * 65536) a = Mt.joinN (a, b) := by
  rw [u32_or (b * 65536) a (by omega) (by omega) (by omega) (by omega)]
  have e : (b * 65536).toNat ||| a.toNat = (b * 65536).toNat + a.toNat := nat_join 16 _ _ (by omega) (by omega)
  rw [e]
  unfold Mt.joinN
  simp only
  omega
set_option maxRecDepth 100000 in
set_option maxHeartbeats 400000 in
theorem split_any (s : Int) (w : World) (h0 : 0 ≤ s) (h1 : s < 4294967296) :
    Calls Tryz.prog 167 #[.int .u32 s] w fun e w' => e = .returned (.tuple #[.int .u32 (Mt.splitN s).1, .int .u32 (Mt.splitN s).2]) ∧ w = w' := by
  go_enter Tryz.func167, Tryz.ntmps167
  go_wp2
  go_ret2
  exact ⟨ret_int2 (and_mask s h0 h1) rfl, rfl⟩
set_option maxRecDepth 100000 in
set_option maxHeartbeats 400000 in
theorem join_any (a b : Int) (w : World) (h0 : 0 ≤ a) (h1 : a < 65535) (h2 : 0 ≤ b) (h3 : b < 65535) :
    Calls Tryz.prog 169 #[.int .u32 a, .int .u32 b] w fun e w' => e = .returned (.int .u32 (Mt.joinN (a, b))) ∧ w = w' := by
  go_enter Tryz.func169, Tryz.ntmps169
  go_wp2
  go_ret
  exact ⟨ret_int (or_join a b h0 h1 h2 h3), rfl⟩
set_option maxRecDepth 100000 in
theorem take_snoc (s : ByteArray) (k : Nat) (h : k < s.size) : s.data.toList.take (k + 1) = s.data.toList.take k ++ [s[k]] := by
  rw [List.take_succ_eq_append_getElem (by simpa using h)]; rfl
set_option maxRecDepth 100000 in
set_option maxHeartbeats 400000 in
theorem add_any (a b : Int) (s : ByteArray) (w : World) (hf : Mt.Fit (a, b)) (hs : s.size ≤ maxLen) :
    Calls Tryz.prog 168 #[.int .u32 a, .int .u32 b, .string s] w fun e w' => e = .returned (.tuple #[.int .u32 (Mt.run (a, b) s.data.toList).1, .int .u32 (Mt.run (a, b) s.data.toList).2]) ∧ w = w' := by
  unfold maxLen at hs
  go_enter Tryz.func168, Tryz.ntmps168
  go_wp2
  go_loop [0, 1, 11] (fun x y i => ∃ k : Nat, k ≤ s.size ∧ i = .int .i64 k ∧ x = .int .u32 (Mt.run (a, b) (s.data.toList.take k)).1 ∧ y = .int .u32 (Mt.run (a, b) (s.data.toList.take k)).2) (fun _ _ i => s.size - (intOf i).toNat)
  case atStart => exact ⟨0, Nat.zero_le _, rfl, rfl, rfl⟩
  case round =>
    obtain ⟨k, hk, rfl, rfl, rfl⟩ := hrel
    have hr := Mt.fit_run (a, b) (s.data.toList.take k) hf
    by_cases hlt : k < s.size
    · have HS : Hid (Mt.run (a, b) (s.data.toList.take (k + 1)) = Mt.step (Mt.run (a, b) (s.data.toList.take k)) s[k]) := Lib.hid (by rw [take_snoc s k hlt, Mt.run_snoc])
      obtain ⟨r1, r2, r3, r4⟩ := hr
      have hc := s[k].toNat_lt
      go_wp2
      go_round
      case rel => exact ⟨k + 1, by omega, by go_num, by rw [HS.out]; rfl, by rw [HS.out]; rfl⟩
      case measure => simp [intOf]; omega
    · have HK : Hid (s.data.toList.take k = s.data.toList) := Lib.hid (List.take_of_length_le (by simp; omega))
      go_wp2
      go_ret2
      exact ⟨ret_int2 (by rw [HK.out]) (by rw [HK.out]), rfl⟩
end Go.Proofs.YtncmihikpcdgoaaGreat

namespace Go.Proofs.YtncmihikpcdgoaaGreat.Jn
/-- a change: a page's number, and what it shall be -/
structure Chg where
  no : Int
  page : List UInt8
def runW : Dk.St → List Chg → Dk.St × Int
  | s, [] => (Dk.flush s, Dk.flushE s)
  | s, c :: r => if Dk.writeE s c.no = 0 then runW (Dk.write s c.no c.page) r else (Dk.write s c.no c.page, Dk.writeE s c.no)
def runs : Dk.St → List (List Chg) → Dk.St × Int
  | s, [] => (s, 0)
  | s, l :: r => if (runW s l).2 = 0 then runs (runW s l).1 r else runW s l
def upd (L : List (List UInt8)) (cs : List Chg) : List (List UInt8) := cs.foldl (fun L c => L.set c.no.toNat c.page) L
def updAll (L : List (List UInt8)) (ls : List (List Chg)) : List (List UInt8) := ls.foldl upd L
def cupd (C : List (Option (List UInt8))) (cs : List Chg) : List (Option (List UInt8)) := cs.foldl (fun C c => C.set c.no.toNat (some c.page)) C
def Val (n : Nat) (cs : List Chg) : Prop := ∀ c ∈ cs, Dk.hasB n c.no = true ∧ c.page.length = 64
/-- nothing in the cache, not down -/
structure Cl (s : Dk.St) : Prop where
  ok : s.Ok
  up : s.down = false
  clean : s.cache = List.replicate s.last.length none
theorem upd_length (cs : List Chg) : ∀ L, (upd L cs).length = L.length := by
  induction cs with
  | nil => intro L; rfl
  | cons c r ih => intro L; show (upd (L.set _ _) r).length = _; rw [ih, List.length_set]
/-- all that is there now -/
def nows (s : Dk.St) : List (List UInt8) := (List.range s.last.length).map (Dk.nowAt s)
theorem nows_length (s : Dk.St) : (nows s).length = s.last.length := by unfold nows; simp
theorem nows_at (s : Dk.St) (i : Nat) (hi : i < s.last.length) : (nows s)[i]? = some (Dk.nowAt s i) := by
  unfold nows
  rw [List.getElem?_map, List.getElem?_range hi]; rfl
theorem nows_put (s : Dk.St) (h : s.cache.length = s.last.length) (i : Nat) (p : List UInt8) : nows (Dk.put s i p) = (nows s).set i p := by
  apply List.ext_getElem?
  intro j
  have hl : (Dk.put s i p).last = s.last := rfl
  rw [List.getElem?_set, nows_length]
  by_cases hj : j < s.last.length
  · rw [nows_at _ _ (by rw [hl]; exact hj)]
    by_cases e : i = j
    · subst e
      rw [if_pos rfl, if_pos hj]
      congr 1
      unfold Dk.nowAt Dk.cacheAt Dk.put
      rw [List.getD_eq_getElem?_getD]
      simp only
      rw [List.getElem?_set_self (by omega)]; rfl
    · rw [if_neg e, nows_at _ _ hj]
      congr 1
      unfold Dk.nowAt Dk.cacheAt Dk.lastAt Dk.put
      simp only [List.getD_eq_getElem?_getD]
      rw [List.getElem?_set_ne e]
  · rw [List.getElem?_eq_none (by rw [nows_length, hl]; omega)]
    by_cases e : i = j
    · rw [if_pos e, if_neg (by omega)]
    · rw [if_neg e, List.getElem?_eq_none (by rw [nows_length]; omega)]
theorem nows_spend (s : Dk.St) : nows (Dk.spend s) = nows s := by
  unfold nows
  rw [Dk.spend_last]
  congr 1
  funext i
  unfold Dk.nowAt Dk.cacheAt Dk.lastAt
  rw [Dk.spend_last, Dk.spend_cache]
theorem nows_clean {s : Dk.St} (h : s.cache = List.replicate s.last.length none) : nows s = s.last := by
  apply List.ext_getElem?
  intro j
  by_cases hj : j < s.last.length
  · rw [nows_at _ _ hj]
    unfold Dk.nowAt Dk.cacheAt Dk.lastAt
    rw [h]
    simp only [List.getD_eq_getElem?_getD]
    rw [List.getElem?_replicate, if_pos hj, List.getElem?_eq_getElem hj]; rfl
  · rw [List.getElem?_eq_none (by rw [nows_length]; omega), List.getElem?_eq_none (by omega)]
theorem spend_fine {s : Dk.St} (h : Dk.spendE s = 0) : (Dk.spend s).down = s.down := by
  unfold Dk.spendE at h
  unfold Dk.spend
  by_cases c : s.lim = true
  · rw [if_pos c]
    by_cases e : s.left = 0
    · rw [if_pos ⟨c, e⟩] at h; omega
    · rw [if_neg e]
  · rw [if_neg c]
theorem spend_broke {s : Dk.St} (h : Dk.spendE s ≠ 0) : s.lim = true ∧ Dk.spend s = { s with down := true } ∧ Dk.spendE s = 5 := by
  have h5 : Dk.spendE s = 5 := by rcases Dk.spend_vals s with e | e; exact absurd e h; exact e
  unfold Dk.spendE at h
  by_cases c : s.lim = true ∧ s.left = 0
  · refine ⟨c.1, ?_, h5⟩
    unfold Dk.spend
    rw [if_pos c.1, if_pos c.2]
  · rw [if_neg c] at h; exact absurd rfl h
theorem runW_spec (cs : List Chg) : ∀ (s : Dk.St), s.Ok → s.down = false → Val s.last.length cs →
    ((runW s cs).2 = 0 ∧ Cl (runW s cs).1 ∧ (runW s cs).1.lim = s.lim ∧ (runW s cs).1.last = upd (nows s) cs) ∨
    ((runW s cs).2 = 5 ∧ s.lim = true ∧ (runW s cs).1.Ok ∧ (runW s cs).1.down = true ∧ (runW s cs).1.last = s.last ∧ ∃ k, (runW s cs).1.cache = cupd s.cache (cs.take k)) := by
  induction cs with
  | nil =>
    intro s hok hup _
    unfold runW Dk.flush Dk.flushE
    rw [hup]
    by_cases h : Dk.spendE s = 0
    · left
      simp only [Bool.false_eq_true, if_false, h, if_true]
      refine ⟨trivial, ⟨Dk.flushed_ok (Dk.spend_ok hok), ?_, ?_⟩, ?_, ?_⟩
      · show (Dk.spend s).down = false
        rw [spend_fine h]; exact hup
      · unfold Dk.flushed
        simp
      · show (Dk.spend s).lim = s.lim
        exact Dk.spend_lim s
      · show nows (Dk.spend s) = upd (nows s) []
        rw [nows_spend]; rfl
    · right
      simp only [Bool.false_eq_true, if_false, h]
      obtain ⟨h1, h2, h3⟩ := spend_broke h
      refine ⟨h3, h1, Dk.spend_ok hok, ?_, Dk.spend_last s, 0, Dk.spend_cache s⟩
      rw [h2]
  | cons c r ih =>
    intro s hok hup hv
    have hc := hv c (by simp)
    have hr : Dk.reachE s c.no = 0 := Dk.reach_mk hup hc.1
    have hw : Dk.writeE s c.no = Dk.spendE s := by unfold Dk.writeE; rw [if_pos hr]
    unfold runW
    rw [hw]
    by_cases h : Dk.spendE s = 0
    · rw [if_pos h]
      have he : Dk.write s c.no c.page = Dk.put (Dk.spend s) c.no.toNat c.page := by unfold Dk.write; rw [if_pos hr, if_pos h]
      have hl : (Dk.put (Dk.spend s) c.no.toNat c.page).last = s.last := Dk.spend_last s
      have hok' : (Dk.put (Dk.spend s) c.no.toNat c.page).Ok := Dk.put_ok (Dk.spend_ok hok) _ hc.2
      have hup' : (Dk.put (Dk.spend s) c.no.toNat c.page).down = false := by show (Dk.spend s).down = false; rw [spend_fine h]; exact hup
      rw [he]
      rcases ih _ hok' hup' (by rw [hl]; exact fun x hx => hv x (by simp [hx])) with ⟨a1, a2, a3, a4⟩ | ⟨a1, a2, a3, a4, a5, k, a6⟩
      · left
        refine ⟨a1, a2, a3.trans (Dk.spend_lim s), a4.trans ?_⟩
        rw [nows_put _ (Dk.spend_ok hok).same, nows_spend]; rfl
      · right
        refine ⟨a1, ?_, a3, a4, a5.trans hl, k + 1, ?_⟩
        · rw [← Dk.spend_lim s]; exact a2
        · rw [a6]
          show cupd ((Dk.spend s).cache.set _ _) _ = _
          rw [Dk.spend_cache]; rfl
    · rw [if_neg h]
      right
      obtain ⟨h1, h2, h3⟩ := spend_broke h
      have he : Dk.write s c.no c.page = Dk.spend s := by unfold Dk.write; rw [if_pos hr, if_neg h]
      refine ⟨h3, h1, ?_, ?_, ?_, 0, ?_⟩
      · rw [he]; exact Dk.spend_ok hok
      · rw [he, h2]
      · rw [he]; exact Dk.spend_last s
      · rw [he]; exact Dk.spend_cache s
theorem crashTo_at (s : Dk.St) (keep : List UInt8) : ∀ k i, (Dk.crashTo s keep k).1.getD i [] = Dk.lastAt s i ∨ ∃ p b, Dk.cacheAt s i = some p ∧ (Dk.crashTo s keep k).1.getD i [] = Dk.torn (Dk.lastAt s i) p b
  | 0, i => Or.inl rfl
  | k + 1, i => by
    rw [Dk.crashTo]
    rcases Dk.crashOne_cases s k (Dk.crashTo s keep k) with e | ⟨p, c, r, hp, _, e⟩
    · rw [e]; exact crashTo_at s keep k i
    · rw [e]
      by_cases hki : k = i
      · subst hki
        simp only [List.getD_eq_getElem?_getD]
        rw [List.getElem?_set]
        rw [if_pos rfl]
        by_cases hl : k < (Dk.crashTo s keep k).1.length
        · rw [if_pos hl]
          exact Or.inr ⟨p, c, hp, rfl⟩
        · rw [if_neg hl]
          rw [Dk.crashTo_len] at hl
          left
          unfold Dk.lastAt
          rw [List.getD_eq_getElem?_getD, List.getElem?_eq_none (l := s.last) (by omega)]
      · simp only [List.getD_eq_getElem?_getD]
        rw [List.getElem?_set_ne hki, ← List.getD_eq_getElem?_getD]
        exact crashTo_at s keep k i
theorem getD_ext {α : Type} (d : α) {a b : List α} (hl : a.length = b.length) (h : ∀ i, i < a.length → a.getD i d = b.getD i d) : a = b := by
  apply List.ext_getElem hl
  intro i h1 h2
  have := h i h1
  rw [List.getD_eq_getElem?_getD, List.getD_eq_getElem?_getD, List.getElem?_eq_getElem h1, List.getElem?_eq_getElem h2] at this
  exact this
theorem cacheAt_none {s : Dk.St} (h : s.cache = List.replicate s.last.length none) (i : Nat) : Dk.cacheAt s i = none := by
  unfold Dk.cacheAt
  rw [h, List.getD_eq_getElem?_getD, List.getElem?_replicate]
  split <;> rfl
theorem cupd_mem (cs : List Chg) : ∀ (C : List (Option (List UInt8))) (i : Nat) (p : List UInt8), (cupd C cs).getD i none = some p → C.getD i none = some p ∨ ∃ c ∈ cs, c.no.toNat = i ∧ c.page = p := by
  induction cs with
  | nil => intro C i p h; exact Or.inl h
  | cons c r ih =>
    intro C i p h
    rcases ih (C.set c.no.toNat (some c.page)) i p h with e | ⟨x, hx, e⟩
    · by_cases hci : c.no.toNat = i
      · rw [List.getD_eq_getElem?_getD, List.getElem?_set, if_pos hci] at e
        by_cases hl : c.no.toNat < C.length
        · rw [if_pos hl] at e
          exact Or.inr ⟨c, by simp, hci, by simpa using e⟩
        · rw [if_neg hl] at e; cases e
      · rw [List.getD_eq_getElem?_getD, List.getElem?_set_ne hci, ← List.getD_eq_getElem?_getD] at e
        exact Or.inl e
    · exact Or.inr ⟨x, by simp [hx], e⟩
/-- of the pages that were written a beginning may be there -/
structure Trn (L : List (List UInt8)) (cs : List Chg) (L' : List (List UInt8)) : Prop where
  len : L'.length = L.length
  pages : ∀ p ∈ L', p.length = 64
  each : ∀ i, L'.getD i [] = L.getD i [] ∨ ∃ c ∈ cs, c.no.toNat = i ∧ ∃ b, L'.getD i [] = Dk.torn (L.getD i []) c.page b
theorem Trn.other {L : List (List UInt8)} {cs : List Chg} {L' : List (List UInt8)} (h : Trn L cs L') {i : Nat} (hi : ∀ c ∈ cs, c.no.toNat ≠ i) : L'.getD i [] = L.getD i [] := by
  rcases h.each i with e | ⟨c, hc, e, _⟩
  · exact e
  · exact absurd e (hi c hc)
theorem Trn.one {L : List (List UInt8)} {x : Chg} {L' : List (List UInt8)} (h : Trn L [x] L') : L'.getD x.no.toNat [] = L.getD x.no.toNat [] ∨ ∃ b, L'.getD x.no.toNat [] = Dk.torn (L.getD x.no.toNat []) x.page b := by
  rcases h.each x.no.toNat with e | ⟨c, hc, _, b, e⟩
  · exact Or.inl e
  · rw [List.mem_singleton] at hc
    subst hc
    exact Or.inr ⟨b, e⟩
theorem runs_spec (ls : List (List Chg)) : ∀ (s : Dk.St), Cl s → (∀ l ∈ ls, Val s.last.length l) →
    ((runs s ls).2 = 0 ∧ Cl (runs s ls).1 ∧ (runs s ls).1.lim = s.lim ∧ (runs s ls).1.last = updAll s.last ls) ∨
    ((runs s ls).2 = 5 ∧ s.lim = true ∧ (runs s ls).1.Ok ∧ ∃ j, j < ls.length ∧ ∀ keep, Trn (updAll s.last (ls.take j)) (ls.getD j []) (Dk.crash (runs s ls).1 keep).last) := by
  induction ls with
  | nil => intro s h _; exact Or.inl ⟨rfl, h, rfl, rfl⟩
  | cons l r ih =>
    intro s h hv
    unfold runs
    rcases runW_spec l s h.ok h.up (hv l (by simp)) with ⟨a1, a2, a3, a4⟩ | ⟨a1, a2, a3, a4, a5, k, a6⟩
    · rw [if_pos a1]
      rw [nows_clean h.clean] at a4
      have hlen : (runW s l).1.last.length = s.last.length := by rw [a4, upd_length]
      rcases ih _ a2 (by rw [hlen]; exact fun x hx => hv x (by simp [hx])) with ⟨b1, b2, b3, b4⟩ | ⟨b1, b2, b3, j, hj, b4⟩
      · left
        exact ⟨b1, b2, b3.trans a3, by rw [b4, a4]; rfl⟩
      · right
        refine ⟨b1, by rw [← a3]; exact b2, b3, j + 1, by simpa using hj, fun keep => ?_⟩
        have := b4 keep
        rw [a4] at this
        exact this
    · rw [if_neg (by omega)]
      right
      refine ⟨a1, a2, a3, 0, by simp, fun keep => ⟨?_, Dk.crashTo_pages a3 keep _ (Nat.le_refl _), fun i => ?_⟩⟩
      · rw [Dk.crash_len, a5]; rfl
      · have e0 : Dk.lastAt (runW s l).1 i = s.last.getD i [] := by unfold Dk.lastAt; rw [a5]
        show (Dk.crashTo _ keep _).1.getD i [] = s.last.getD i [] ∨ ∃ c ∈ l, _
        rcases crashTo_at (runW s l).1 keep (runW s l).1.last.length i with e | ⟨p, b, hp, e⟩
        · left; rw [e, e0]
        · right
          unfold Dk.cacheAt at hp
          rw [a6] at hp
          rcases cupd_mem _ _ _ _ hp with q | ⟨c, hc, hci, hcp⟩
          · have := cacheAt_none h.clean i
            unfold Dk.cacheAt at this
            rw [this] at q; cases q
          · refine ⟨c, List.mem_of_mem_take hc, hci, b, ?_⟩
            exact e.trans (by rw [e0, hcp]; rfl)
end Go.Proofs.YtncmihikpcdgoaaGreat.Jn
